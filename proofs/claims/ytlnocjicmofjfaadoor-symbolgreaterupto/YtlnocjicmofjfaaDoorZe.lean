/- The program's Expand above its Apply; of no statement by itself. -/
import Derived.Test.YtlnocjicmofjfaaDoorYu
namespace Go.Proofs.YtlnocjicmofjfaaDoor
open Go.RowKit
open St12 Sy13
set_option linter.unusedVariables false
set_option linter.unusedSimpArgs false

variable {Win : World → Nat → Nat → Value → Nat → List Nat → Prop} {Tab : World → Prop}
/-- What is asked of Apply. -/
def ApplyOk (Win : World → Nat → Nat → Value → Nat → List Nat → Prop) (Tab : World → Prop) : Prop := ∀ (w0 : World) (a : Nat) (v : Value) (n : Nat) (bs : List Nat) (s : Stt) (y : Sym) (w : World), Tab w0 → Tab w → w0.heap.size ≤ w.heap.size → Win w w0.heap.size a v n bs → s.I → y.I → bs.length + 273 ≤ 1152921504606846976 → Calls Tryd.prog 20 #[.pointer (some ⟨a, 0, none⟩), stv s, syv y] w fun e w' => ∃ ov v', e = .returned (.tuple #[ov, stv (app n bs s y).2.1, .int .i64 (app n bs s y).2.2]) ∧ Win w' w0.heap.size a v' n (bs ++ (app n bs s y).1) ∧ w'.ownsRow w.heap.size 5 1 ov (app n bs s y).1.length (ins .u8 (nums (app n bs s y).1)) ∧ (∀ g, ov.ownBlock = some g → ¬ Foot a v' g) ∧ Chg (Foot a v) w w' ∧ Moved w v v'
set_option maxHeartbeats 8000000 in
set_option maxRecDepth 100000 in
theorem texpand_any (S : WinSpec Win) (T : StSpec Tab) (A : ApplyOk Win Tab) (dict : Int) (ad : Option Addr) (c len : Nat) (l : List Sym) (w0 : World) (hT : Tab w0) (hL : l.length = len) (hd : I64 dict) (hl : SymL w0 ad l) (hle : len ≤ 4194304) : Calls Tryd.prog 14 #[.int .i64 dict, .slice ad len c] w0 fun e w' => ∃ ov, e = .returned (.tuple #[ov, .int .i64 ((expandA dict l).2.1 : Int), .int .i64 (expandA dict l).2.2]) ∧ w'.ownsRow w0.heap.size 5 1 ov (expandA dict l).1.length (ins .u8 (nums (expandA dict l).1)) ∧ Chg (fun _ => False) w0 w' := by
  obtain ⟨iu, hiu, hu0, hu1, hu2⟩ := info_parts infoU8
  by_cases hout : dict < 1 ∨ 4294967295 < dict
  · have HA : Hid (expandA dict l = ([], 0, 7)) := by show _ = _; unfold expandA; rw [if_pos hout]
    have HN : Hid _ := S.newOut dict w0 hout
    clear hout
    go_enter Tryd.func14, Tryd.ntmps14
    go_wp2_with fail
    refine Calls.mono HN.out ?_
    rintro z w1 ⟨rfl, c1⟩
    have HC : Hid _ := c1
    clear c1
    go_wp2
    go_ret3
    rw [HA.out]
    exact ⟨_, rfl, World.ownsRow_nil _ _ _ _, HC.out⟩
  · obtain ⟨n, rfl⟩ : ∃ n : Nat, dict = (n : Int) := ⟨dict.toNat, by omega⟩
    have hn1 : 1 ≤ n := by omega
    have hn : n ≤ 4294967295 := by omega
    have HE : Hid (expandA (n : Int) l = exp n [] st0 0 l) := by show _ = _; unfold expandA; rw [if_neg hout, Int.toNat_natCast]
    have HN : Hid _ := S.newIn n w0 hn1 hn
    have HS0 : Hid (∀ w, Tab w → Calls Tryd.prog 11 #[] w fun e w' => e = .returned (.agg #[.int .i64 0, .int .i64 1, .int .i64 1, .int .i64 1, .int .i64 1]) ∧ Chg (fun _ => False) w w') := T.new
    have HSL : Hid (SymL w0 ad l) := hl
    have HLN : Hid (l.length = len) := hL
    have HT : Hid (Tab w0) := hT
    clear hout hl hL hT
    go_enter Tryd.func14, Tryd.ntmps14
    go_wp2_with fail
    refine Calls.mono HN.out ?_
    rintro z w1 ⟨a, v0, rfl, hw1, c1⟩
    have HC1 : Hid (Chg (fun _ => False) w0 w1) := c1
    have HW1 : Hid (Win w1 w0.heap.size a v0 n []) := hw1
    clear hw1 c1 HN
    go_wp2_with fail
    refine Calls.mono (HS0.out _ (T.keep HT.out HC1.out)) ?_
    rintro z w2 ⟨rfl, c2⟩
    have cN := chg_one w2 (.cells #[.int .i64 0, .int .i64 1, .int .i64 1, .int .i64 1, .int .i64 1] 30)
    have HX0 : Hid (Ex Win 30 w0 (w2.alloc (.cells #[.int .i64 0, .int .i64 1, .int .i64 1, .int .i64 1, .int .i64 1] 30)) a n v0 [] w2.heap.size st0 (.slice none 0 0) []) := ⟨S.new (S.new HW1.out c2) cN, heap_alloc_last _ _, (chg_then HC1.out c2).size, World.ownsRow_nil _ _ _ _, fun z e => (nomatch e), chg_then (chg_then HC1.out c2) cN⟩
    clear c2 cN HC1 HW1 HS0
    go_wp2_with fail
    generalize w2.alloc (.cells #[.int .i64 0, .int .i64 1, .int .i64 1, .int .i64 1, .int .i64 1] 30) = Ws at *
    generalize w2.heap.size = g9 at *
    go_loopw [9, 25] (fun v1 v3 wr => ∃ (i bL ca : Nat) (aa : Option Addr) (v : Value) (bs : List Nat) (s : Stt), i ≤ len ∧ v1 = .slice aa bL ca ∧ v3 = .int .i64 (i : Int) ∧ Hid (bs.length = bL ∧ runA n [] st0 (l.take i) = some (bs, s) ∧ Ex Win 30 w0 wr a n v bs g9 s (.slice aa bL ca) bs)) (fun _ v3 _ => len - (intOf v3).toNat)
    case atStart => exact ⟨0, 0, 0, none, _, [], st0, by omega, rfl, rfl, rfl, rfl, HX0.out⟩
    case round =>
      clear HX0
      obtain ⟨i, bL, ca, aa, v, bs, s, hi, rfl, rfl, HI⟩ := hrel
      have hii : (i : Int) ≤ (len : Int) := by omega
      have hle2 : (len : Int) ≤ 4194304 := by omega
      have HX : Hid (Ex Win 30 w0 wr a n v bs g9 s (.slice aa bL ca) bs) := HI.out.2.2
      have HRN : Hid (runA n [] st0 (l.take i) = some (bs, s)) := HI.out.2.1
      have HBE : Hid (bs.length = bL) := HI.out.1
      clear HI
      by_cases hlt : i < len
      · have hd1 : decide ((i : Int) < (len : Int)) = true := by simp; omega
        have hd1' : decide (i < len) = true := decide_eq_true hlt
        obtain ⟨y, hy⟩ : ∃ y, l[i]? = some y := ⟨l[i]'(by have := HLN.out; omega), List.getElem?_eq_getElem _⟩
        have HYI : Hid (l[i]? = some y) := hy
        obtain ⟨hyi, lb, lo, had, k0, k1, k2, k3⟩ := HSL.out.new HX.out.chg i y hy
        have HII : Hid y.I := hyi
        have HSR : Hid (right s) := run_right HRN.out (by decide)
        have HSI : Hid s.I := right_I HSR.out
        have HBL : Hid (bs.length ≤ 273 * 4194304) := by
          have := run_bound HRN.out
          rw [List.length_take] at this
          show _ ≤ _
          omega
        have cY := chg_one wr (.cells #[.int .i64 y.k, .int .u8 y.y, .int .i64 y.l, .int .i64 y.d] 33)
        have HYB : Hid ((wr.alloc (.cells #[.int .i64 y.k, .int .u8 y.y, .int .i64 y.l, .int .i64 y.d] 33)).heap[wr.heap.size]? = some (.cells #[.int .i64 y.k, .int .u8 y.y, .int .i64 y.l, .int .i64 y.d] 33 (0, 0))) := heap_alloc_last _ _
        have HXY : Hid (Ex Win 30 w0 (wr.alloc (.cells #[.int .i64 y.k, .int .u8 y.y, .int .i64 y.l, .int .i64 y.d] 33)) a n v bs g9 s (.slice aa bL ca) bs) := HX.out.new S.like cY
        obtain ⟨s0, s1, s2, s3, s4⟩ := cells5 (show (wr.alloc (.cells #[.int .i64 y.k, .int .u8 y.y, .int .i64 y.l, .int .i64 y.d] 33)).heap[g9]? = some (.cells #[.int .i64 s.n, .int .i64 s.a, .int .i64 s.b, .int .i64 s.c, .int .i64 s.d] 30 (0, 0)) from HXY.out.st)
        obtain ⟨y0, y1, y2, y3⟩ := cells4y HYB.out
        obtain ⟨xs, t, er, hap⟩ : ∃ xs t er, app n bs s y = (xs, t, er) := ⟨_, _, _, rfl⟩
        have HAP : Hid (app n bs s y = (xs, t, er)) := hap
        have HAY : Hid (∀ w_, Ex Win 30 w0 w_ a n v bs g9 s (.slice aa bL ca) bs → Calls Tryd.prog 20 #[.pointer (some ⟨a, 0, none⟩), .agg #[.int .i64 s.n, .int .i64 s.a, .int .i64 s.b, .int .i64 s.c, .int .i64 s.d], .agg #[.int .i64 y.k, .int .u8 y.y, .int .i64 y.l, .int .i64 y.d]] w_ fun e w' => ∃ ov v', e = .returned (.tuple #[ov, .agg #[.int .i64 t.n, .int .i64 t.a, .int .i64 t.b, .int .i64 t.c, .int .i64 t.d], .int .i64 er]) ∧ Made Win w0.heap.size w_.heap.size a n (bs ++ xs) xs ov v' w' ∧ Chg (Foot a v) w_ w' ∧ Moved w_ v v') := fun w_ hx => by
          have h9 := A w0 a v n bs s y w_ HT.out (T.keep HT.out hx.chg) hx.chg.size hx.win HSI.out HII.out (by have := HBL.out; omega)
          rw [HAP.out] at h9
          exact h9.mono fun e w' ⟨ov, v', h1, h2, h3, h4, h5, h6⟩ => ⟨ov, v', h1, ⟨h2, h3, h4⟩, h5, h6⟩
        clear hy hyi HX cY hap
        subst had
        go_wp2_with fail
        generalize wr.alloc (.cells #[.int .i64 y.k, .int .u8 y.y, .int .i64 y.l, .int .i64 y.d] 33) = Wy at *
        refine (HAY.out _ HXY.out).mono ?_
        rintro z w5 ⟨ov, v', rfl, hm5, c5, hmv5⟩
        obtain ⟨hx5, hne5⟩ := HXY.out.made S.like (by decide) (by decide) hm5 c5 hmv5 (Nat.le_refl _)
        have hst : w5.heap[g9]? = some (.cells #[.int .i64 s.n, .int .i64 s.a, .int .i64 s.b, .int .i64 s.c, .int .i64 s.d] 30 (0, 0)) := hx5.st
        obtain ⟨⟨p0, f0⟩, ⟨p1, f1⟩, ⟨p2, f2⟩, ⟨p3, f3⟩, ⟨p4, f4⟩, hblk, hchg⟩ := put5_of hst (.int .i64 t.n) (.int .i64 t.a) (.int .i64 t.b) (.int .i64 t.c) (.int .i64 t.d)
        have HX5 : Hid (Ex Win 30 w0 _ a n v' (bs ++ xs) g9 t (.slice aa bL ca) bs) := hx5.store (s' := t) S.like (by decide) (by decide) hchg hblk
        have HO5 : Hid _ := ownsRow_keep hm5.out hchg (fun z e => own_off hm5.out hst (by decide) z e)
        clear hm5 c5 hmv5 hx5 hne5 hst hblk hchg HXY HYB HAY s0 s1 s2 s3 s4 y0 y1 y2 y3 k0 k1 k2 k3
        go_upto_region 10 with fail
        generalize ((((w5.setCell ⟨g9, 0, none⟩ (.int .i64 t.n)).setCell ⟨g9, 1, none⟩ (.int .i64 t.a)).setCell ⟨g9, 2, none⟩ (.int .i64 t.b)).setCell ⟨g9, 3, none⟩ (.int .i64 t.c)).setCell ⟨g9, 4, none⟩ (.int .i64 t.d) = W5 at *
        clear p0 f0 p1 f1 p2 f2 p3 f3 p4 f4
        by_cases he : er = 0
        · subst he
          obtain ⟨m, hm⟩ : ∃ m, xs.length = m := ⟨_, rfl⟩
          have HXM : Hid (xs.length = m) := hm
          have HXL : Hid (m ≤ 273) := by
            have h9 := app_len_le n bs s y
            rw [HAP.out] at h9
            show _ ≤ _
            simp only at h9
            omega
          rw [hm] at HO5
          obtain ⟨oa, oc, hov⟩ := form1 HO5.out
          subst hov
          have HRN2 : Hid (runA n [] st0 (l.take (i + 1)) = some (bs ++ xs, t)) := by
            have h9 := run_next HRN.out HYI.out (by rw [HAP.out])
            rw [HAP.out] at h9
            exact h9
          clear hm HAP
          have hown : W5.ownsRow w0.heap.size 5 1 (.slice aa bL ca) bL (ins .u8 (nums bs)) := by have h9 := HX5.out.all; rw [HBE.out] at h9; exact h9
          have hsrc := (row8_own HO5.out).src
          have hone := one8 xs
          have hB8 : w0.heap.size ≤ W5.heap.size := HX5.out.chg.size
          have hbl : bL ≤ 273 * 4194304 := by rw [← HBE.out]; exact HBL.out
          have hml := HXL.out
          go_wp2_with (at_builtin; refine wpList_append_moved rfl _ _ 24 rfl w0.heap.size 5 iu (.int .u8 0) 1 1 Tryd.underlying24 hiu hu0 hu1 hu2 rfl (by decide) _ bL (ins .u8 (nums bs)) rfl oa m oc rfl ((nums xs).map (Value.int .u8)) hown hsrc hone (by unfold maxLen; omega) (by omega) hB8 ?_)
          intro v9 w10 ho9 hg9 hm9
          obtain ⟨b9, e9, hv9⟩ := form1 ho9
          subst hv9
          have c9 : Chg (fun z => (Value.slice aa bL ca).ownBlock = some z) W5 w10 := (Chg.refl _ _).grown hg9 (fun z e => .inl e)
          have HX12 : Hid (Ex Win 30 w0 w10 a n v' (bs ++ xs) g9 t (.slice b9 (bL + m) e9) (bs ++ xs)) := HX5.out.grow S.like (by decide) c9 (by rw [List.length_append, HBE.out, HXM.out]; exact own_app ho9) hm9
          have HLL : Hid ((bs ++ xs).length = bL + m) := by show _ = _; rw [List.length_append, HBE.out, HXM.out]
          clear ho9 hg9 hm9 c9 hown hsrc hone HX5 HO5 hB8
          go_wp2_with fail
          exact ⟨⟨i + 1, bL + m, e9, b9, v', bs ++ xs, t, by omega, rfl, by go_num, HLL.out, HRN2.out, HX12.out⟩, by simp [intOf]; omega⟩
        · have q0 : (er == 0) = false := by rw [beq_eq_false_iff_ne]; exact he
          have q0' : (er != 0) = true := by simp [he]
          have q0'' : decide (er = 0) = false := decide_eq_false he
          have HFE : Hid (exp n [] st0 0 l = ([], i, er)) := by
            have h9 := exp_take HRN.out HYI.out (by rw [HAP.out]; exact he)
            rw [HAP.out] at h9
            exact h9
          have HCE : Hid _ := HX5.out.chg
          clear HX5 HO5 he
          go_wp2
          go_ret3
          rw [HE.out, HFE.out]
          exact ⟨_, rfl, World.ownsRow_nil _ _ _ _, HCE.out⟩
      · have hd1 : decide ((i : Int) < (len : Int)) = false := by simp; omega
        have hd1' : decide (i < len) = false := decide_eq_false hlt
        have HFE : Hid (exp n [] st0 0 l = (bs, len, 0)) := by
          have h9 := exp_run 0 HRN.out
          rw [List.take_of_length_le (by have := HLN.out; omega), Nat.zero_add] at h9
          rw [HLN.out] at h9
          exact h9
        go_wp2
        go_ret3
        rw [HE.out, HFE.out]
        exact ⟨_, rfl, HX.out.all, HX.out.chg⟩
end Go.Proofs.YtlnocjicmofjfaaDoor
