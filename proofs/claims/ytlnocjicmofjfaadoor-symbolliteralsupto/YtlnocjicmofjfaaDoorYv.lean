/- The symbols of a row that are taken; a row whose bytes the document tells; of no statement by itself. -/
import Derived.Test.YtlnocjicmofjfaaDoorYu
namespace Go.Proofs.YtlnocjicmofjfaaDoor
open Go.RowKit
open St12 Sy13
set_option linter.unusedVariables false
set_option linter.unusedSimpArgs false

theorem from_sym (w : World) (y : Sym) (t : TypeId) : From (w.alloc (.cells #[.int .i64 y.k, .int .u8 y.y, .int .i64 y.l, .int .i64 y.d] t)) (some ⟨w.heap.size, 0, none⟩) 1 1 4 (symcs [y]) := by
  refine ⟨by rw [symcs_len]; rfl, .inr ⟨_, rfl, fun j u hu => ?_⟩⟩
  have hadd : (⟨w.heap.size, 0, none⟩ : Addr).add j = ⟨w.heap.size, j, none⟩ := by unfold Addr.add; split <;> simp_all
  rw [symcs_one] at hu
  rw [hadd, World.cell?, heap_alloc_new]
  simpa [symc] using hu
theorem formSym {w : World} {B : Nat} {lv : Value} {n : Nat} {xs : List Value} (h : w.ownsRow B 33 4 lv n xs) : ∃ a c, lv = .slice a n c := by
  rcases h.2 with ⟨rfl, rfl⟩ | ⟨g, cap, cur, rfl, _⟩
  · exact ⟨none, 0, rfl⟩
  · exact ⟨_, _, rfl⟩
theorem sym_app {w : World} {B : Nat} {v : Value} {n : Nat} {a b : List Sym} (h : w.ownsRow B 33 4 v n (symcs a ++ symcs b)) (hn : n = (a ++ b).length) : SymO w B v (a ++ b) := by
  unfold SymO
  rw [symcs_append, ← hn]
  exact h
variable {Win : World → Nat → Nat → Value → Nat → List Nat → Prop} {Tab : World → Prop}
/-- A window under way, with the symbols that were taken. -/
structure Rgt (Win : World → Nat → Nat → Value → Nat → List Nat → Prop) (w0 wr : World) (a n : Nat) (v : Value) (g : Nat) (l : List Sym) (i : Nat) (row : List Sym) (bs : List Nat) (s : Stt) (rv av : Value) : Prop where
  ex : Ex Win 30 w0 wr a n v bs g s av bs
  rows : SymO wr w0.heap.size rv row
  run : runA n [] st0 row = some (bs, s)
  len : row.length ≤ i
  ok : ∀ y ∈ row, y.I
set_option maxHeartbeats 8000000 in
set_option maxRecDepth 100000 in
theorem right_any (S : WinSpec Win) (T : StSpec Tab) (Y : SymSpec Win Tab) (n : Nat) (hn1 : 1 ≤ n) (hn : n ≤ 4294967295) (ad : Option Addr) (c len : Nat) (l : List Sym) (w0 : World) (hT : Tab w0) (hL : l.length = len) (hl : SymL w0 ad l) (hle : len ≤ 1048576) : Calls Tryd.prog 9 #[.int .i64 (n : Int), .slice ad len c] w0 fun e w' => ∃ rv av row bs s, e = .returned (.tuple #[rv, av, .bool true]) ∧ runA n [] st0 row = some (bs, s) ∧ SymO w' w0.heap.size rv row ∧ w'.ownsRow w0.heap.size 5 1 av bs.length (ins .u8 (nums bs)) ∧ row.length ≤ len ∧ (∀ y ∈ row, y.I) ∧ Chg (fun _ => False) w0 w' := by
  obtain ⟨iu, hiu, hu0, hu1, hu2⟩ := info_parts infoU8
  obtain ⟨iy, hiy, hy0, hy1, hy2⟩ := info_parts infoSym
  have HN : Hid _ := S.newIn n w0 hn1 hn
  have HS0 : Hid (∀ w, Tab w → Calls Tryd.prog 11 #[] w fun e w' => e = .returned (.agg #[.int .i64 0, .int .i64 1, .int .i64 1, .int .i64 1, .int .i64 1]) ∧ Chg (fun _ => False) w w') := T.new
  have HSL : Hid (SymL w0 ad l) := hl
  have HLN : Hid (l.length = len) := hL
  have HT : Hid (Tab w0) := hT
  have hne := pW_ne
  clear hl hL hT
  go_enter Tryd.func9, Tryd.ntmps9
  go_wp2_with fail
  refine Calls.mono HN.out ?_
  rintro z w1 ⟨a, v0, rfl, hw1, c1⟩
  have HC1 : Hid (Chg (fun _ => False) w0 w1) := c1
  have HW1 : Hid (Win w1 w0.heap.size a v0 n []) := hw1
  clear hw1 c1 HN
  go_wp2_with fail
  refine Calls.mono (HS0.out _ (Y.new HT.out HC1.out)) ?_
  rintro z w2 ⟨rfl, c2⟩
  have cN := chg_one w2 (.cells #[.int .i64 0, .int .i64 1, .int .i64 1, .int .i64 1, .int .i64 1] 30)
  have HX0 : Hid (Rgt Win w0 (w2.alloc (.cells #[.int .i64 0, .int .i64 1, .int .i64 1, .int .i64 1, .int .i64 1] 30)) a n v0 w2.heap.size l 0 [] [] st0 (.slice none 0 0) (.slice none 0 0)) := ⟨⟨S.new (S.new HW1.out c2) cN, heap_alloc_last _ _, (chg_then HC1.out c2).size, World.ownsRow_nil _ _ _ _, fun z e => (nomatch e), chg_then (chg_then HC1.out c2) cN⟩, SymO.nil _ _, rfl, Nat.le_refl _, fun y hy => by cases hy⟩
  clear c2 cN HC1 HW1 HS0
  go_wp2_with fail
  generalize w2.alloc (.cells #[.int .i64 0, .int .i64 1, .int .i64 1, .int .i64 1, .int .i64 1] 30) = Ws at *
  generalize w2.heap.size = g9 at *
  go_loopw [10, 11, 31] (fun v1 v2 v3 wr => ∃ (i rL rc bL ca : Nat) (ra aa : Option Addr) (v : Value) (row : List Sym) (bs : List Nat) (s : Stt), i ≤ len ∧ v1 = .slice ra rL rc ∧ v2 = .slice aa bL ca ∧ v3 = .int .i64 (i : Int) ∧ Hid (row.length = rL ∧ bs.length = bL ∧ Rgt Win w0 wr a n v g9 l i row bs s (.slice ra rL rc) (.slice aa bL ca))) (fun _ _ v3 _ => len - (intOf v3).toNat)
  case atStart => exact ⟨0, 0, 0, 0, 0, none, none, _, [], [], st0, by omega, rfl, rfl, rfl, rfl, rfl, HX0.out⟩
  case round =>
    clear HX0
    obtain ⟨i, rL, rc, bL, ca, ra, aa, v, row, bs, s, hi, rfl, rfl, rfl, HI⟩ := hrel
    have hii : (i : Int) ≤ (len : Int) := by omega
    have hle2 : (len : Int) ≤ 1048576 := by omega
    have HX : Hid (Rgt Win w0 wr a n v g9 l i row bs s (.slice ra rL rc) (.slice aa bL ca)) := HI.out.2.2
    have HRL : Hid (row.length = rL) := HI.out.1
    have HBE : Hid (bs.length = bL) := HI.out.2.1
    clear HI
    by_cases hlt : i < len
    · have hd1 : decide ((i : Int) < (len : Int)) = true := by simp; omega
      have hd1' : decide (i < len) = true := decide_eq_true hlt
      obtain ⟨y, hy⟩ : ∃ y, l[i]? = some y := ⟨l[i]'(by have := HLN.out; omega), List.getElem?_eq_getElem _⟩
      obtain ⟨hyi, lb, lo, had, k0, k1, k2, k3⟩ := HSL.out.new HX.out.ex.chg i y hy
      have HII : Hid y.I := hyi
      have HSR : Hid (right s) := run_right HX.out.run (by decide)
      have HSI : Hid s.I := right_I HSR.out
      have HBL : Hid (bs.length ≤ 273 * 1048576) := by
        have := run_bound HX.out.run
        have := HX.out.len
        show _ ≤ _
        omega
      have cY := chg_one wr (.cells #[.int .i64 y.k, .int .u8 y.y, .int .i64 y.l, .int .i64 y.d] 33)
      have HYB : Hid ((wr.alloc (.cells #[.int .i64 y.k, .int .u8 y.y, .int .i64 y.l, .int .i64 y.d] 33)).heap[wr.heap.size]? = some (.cells #[.int .i64 y.k, .int .u8 y.y, .int .i64 y.l, .int .i64 y.d] 33 (0, 0))) := heap_alloc_last _ _
      have HXY : Hid (Ex Win 30 w0 (wr.alloc (.cells #[.int .i64 y.k, .int .u8 y.y, .int .i64 y.l, .int .i64 y.d] 33)) a n v bs g9 s (.slice aa bL ca) bs) := HX.out.ex.new S.like cY
      have HRY : Hid (SymO (wr.alloc (.cells #[.int .i64 y.k, .int .u8 y.y, .int .i64 y.l, .int .i64 y.d] 33)) w0.heap.size (.slice ra rL rc) row) := HX.out.rows.new cY
      have HRW : Hid (∀ z, (Value.slice ra rL rc).ownBlock = some z → z < wr.heap.size) := fun z e => (HX.out.rows.lt e).2
      have HRX : Hid (runA n [] st0 row = some (bs, s) ∧ row.length ≤ i ∧ ∀ y ∈ row, y.I) := ⟨HX.out.run, HX.out.len, HX.out.ok⟩
      obtain ⟨s0, s1, s2, s3, s4⟩ := cells5 (show (wr.alloc (.cells #[.int .i64 y.k, .int .u8 y.y, .int .i64 y.l, .int .i64 y.d] 33)).heap[g9]? = some (.cells #[.int .i64 s.n, .int .i64 s.a, .int .i64 s.b, .int .i64 s.c, .int .i64 s.d] 30 (0, 0)) from HXY.out.st)
      obtain ⟨y0, y1, y2, y3⟩ := cells4y HYB.out
      obtain ⟨xs, t, er, hap⟩ : ∃ xs t er, app n bs s y = (xs, t, er) := ⟨_, _, _, rfl⟩
      have HAP : Hid (app n bs s y = (xs, t, er)) := hap
      have HAY : Hid (∀ w_, Ex Win 30 w0 w_ a n v bs g9 s (.slice aa bL ca) bs → Calls Tryd.prog 20 #[.pointer (some ⟨a, 0, none⟩), .agg #[.int .i64 s.n, .int .i64 s.a, .int .i64 s.b, .int .i64 s.c, .int .i64 s.d], .agg #[.int .i64 y.k, .int .u8 y.y, .int .i64 y.l, .int .i64 y.d]] w_ fun e w' => ∃ ov v', e = .returned (.tuple #[ov, .agg #[.int .i64 t.n, .int .i64 t.a, .int .i64 t.b, .int .i64 t.c, .int .i64 t.d], .int .i64 er]) ∧ Made Win w0.heap.size w_.heap.size a n (bs ++ xs) xs ov v' w' ∧ Chg (Foot a v) w_ w' ∧ Moved w_ v v') := fun w_ hx => by
        have h9 := Y.apply w0 a v n bs s y w_ HT.out (Y.new HT.out hx.chg) hx.chg.size hx.win HSI.out HII.out (by have := HBL.out; omega)
        rw [HAP.out] at h9
        exact h9.mono fun e w' ⟨ov, v', h1, h2, h3, h4, h5, h6⟩ => ⟨ov, v', h1, ⟨h2, h3, h4⟩, h5, h6⟩
      clear hy hyi HX cY hap
      subst had
      go_wp2_with fail
      generalize hwy : wr.alloc (.cells #[.int .i64 y.k, .int .u8 y.y, .int .i64 y.l, .int .i64 y.d] 33) = Wy at *
      have HWS : Hid (Wy.heap.size = wr.heap.size + 1) := by rw [← hwy]; exact World.size_alloc _ _
      clear hwy
      refine (HAY.out _ HXY.out).mono ?_
      rintro z w5 ⟨ov, v', rfl, hm5, c5, hmv5⟩
      have cT := chg_one w5 (.cells #[.int .i64 t.n, .int .i64 t.a, .int .i64 t.b, .int .i64 t.c, .int .i64 t.d] 30)
      obtain ⟨hx5, hne5⟩ := HXY.out.made S.like (by decide) (by decide) hm5 c5 hmv5 (Nat.le_refl _)
      have HX5 : Hid (Ex Win 30 w0 (w5.alloc (.cells #[.int .i64 t.n, .int .i64 t.a, .int .i64 t.b, .int .i64 t.c, .int .i64 t.d] 30)) a n v' (bs ++ xs) g9 s (.slice aa bL ca) bs) := hx5.new S.like cT
      have HNS : Hid (∀ z cs tz fr, Wy.heap[z]? = some (.cells cs tz fr) → tz ≠ 84 → tz ≠ 5 → ¬ Foot a v z) := fun z cs tz fr hb k1 k2 => S.like.off HXY.out.win hb k1 k2
      have HR5 : Hid (SymO (w5.alloc (.cells #[.int .i64 t.n, .int .i64 t.a, .int .i64 t.b, .int .i64 t.c, .int .i64 t.d] 30)) w0.heap.size (.slice ra rL rc) row) := (HRY.out.keep c5 (fun z e => by
        obtain ⟨cs, hcs⟩ := HRY.out.blk e
        exact HNS.out z _ _ _ hcs (by decide) (by decide))).new cT
      have HY5 : Hid ((w5.alloc (.cells #[.int .i64 t.n, .int .i64 t.a, .int .i64 t.b, .int .i64 t.c, .int .i64 t.d] 30)).heap[wr.heap.size]? = some (.cells #[.int .i64 y.k, .int .u8 y.y, .int .i64 y.l, .int .i64 y.d] 33 (0, 0))) := blk_keep (blk_keep HYB.out c5 (HNS.out _ _ _ _ HYB.out (by decide) (by decide))) cT (fun f => f)
      have HT5 : Hid ((w5.alloc (.cells #[.int .i64 t.n, .int .i64 t.a, .int .i64 t.b, .int .i64 t.c, .int .i64 t.d] 30)).heap[w5.heap.size]? = some (.cells #[.int .i64 t.n, .int .i64 t.a, .int .i64 t.b, .int .i64 t.c, .int .i64 t.d] 30 (0, 0))) := heap_alloc_last _ _
      have HO5 : Hid ((w5.alloc (.cells #[.int .i64 t.n, .int .i64 t.a, .int .i64 t.b, .int .i64 t.c, .int .i64 t.d] 30)).ownsRow Wy.heap.size 5 1 ov xs.length (ins .u8 (nums xs))) := ownsRow_keep hm5.out cT (fun _ _ f => f)
      have HZ5 : Hid (∀ z, (Value.slice ra rL rc).ownBlock = some z → z ≠ wr.heap.size) := fun z e => by have := HRW.out z e; omega
      clear hm5 c5 hmv5 cT hx5 hne5 HXY HRY HYB HNS HAY s0 s1 s2 s3 s4 y0 y1 y2 y3 k0 k1 k2 k3
      by_cases he : er = 0
      · subst he
        obtain ⟨m, hm⟩ : ∃ m, xs.length = m := ⟨_, rfl⟩
        have HXM : Hid (xs.length = m) := hm
        have HXL : Hid (m ≤ 273) := by
          have h9 := app_len_le n bs s y
          rw [HAP.out] at h9
          show _ ≤ _
          simp only at h9
          omega
        rw [hm] at HO5
        obtain ⟨oa, oc, hov⟩ := form1 HO5.out
        subst hov
        clear hm
        obtain ⟨x0, x1, x2, x3, x4⟩ := cells5 HT5.out
        have hst : (w5.alloc (.cells #[.int .i64 t.n, .int .i64 t.a, .int .i64 t.b, .int .i64 t.c, .int .i64 t.d] 30)).heap[g9]? = some (.cells #[.int .i64 s.n, .int .i64 s.a, .int .i64 s.b, .int .i64 s.c, .int .i64 s.d] 30 (0, 0)) := HX5.out.st
        obtain ⟨⟨p0, f0⟩, ⟨p1, f1⟩, ⟨p2, f2⟩, ⟨p3, f3⟩, ⟨p4, f4⟩, hblk, hchg⟩ := put5_of hst (.int .i64 t.n) (.int .i64 t.a) (.int .i64 t.b) (.int .i64 t.c) (.int .i64 t.d)
        have HX8 : Hid _ := HX5.out.store (s' := t) S.like (by decide) (by decide) hchg hblk
        have HO8 : Hid _ := ownsRow_keep HO5.out hchg (fun z e => own_off HO5.out hst (by decide) z e)
        have HR8 : Hid _ := HR5.out.keep hchg (fun z e h => by
          obtain ⟨cs, hcs⟩ := HR5.out.blk e
          rw [h] at hcs
          exact ty_ne hcs hst (by decide))
        have HY8 : Hid _ := blk_keep HY5.out hchg (fun h => by
          rw [← h] at hst
          exact ty_ne HY5.out hst (by decide))
        have HRN2 : Hid (runA n [] st0 (row ++ [y]) = some (bs ++ xs, t)) := by
          have h9 := run_snoc HRX.out.1 (y := y) (by rw [HAP.out])
          rw [HAP.out] at h9
          exact h9
        clear hst hblk hchg HX5 HO5 HT5 HR5 HY5 HAP
        go_upto_region 13 with fail
        generalize (((((w5.alloc (.cells #[.int .i64 t.n, .int .i64 t.a, .int .i64 t.b, .int .i64 t.c, .int .i64 t.d] 30)).setCell ⟨g9, 0, none⟩ (.int .i64 t.n)).setCell ⟨g9, 1, none⟩ (.int .i64 t.a)).setCell ⟨g9, 2, none⟩ (.int .i64 t.b)).setCell ⟨g9, 3, none⟩ (.int .i64 t.c)).setCell ⟨g9, 4, none⟩ (.int .i64 t.d) = W8 at *
        clear x0 x1 x2 x3 x4 p0 f0 p1 f1 p2 f2 p3 f3 p4 f4
        obtain ⟨y0, y1, y2, y3⟩ := cells4y HY8.out
        have c10 := chg_one W8 (.cells #[.int .i64 y.k, .int .u8 y.y, .int .i64 y.l, .int .i64 y.d] 33)
        have hsrc := from_sym W8 y 33
        have hone := symcs_cell [y]
        have hown : (W8.alloc (.cells #[.int .i64 y.k, .int .u8 y.y, .int .i64 y.l, .int .i64 y.d] 33)).ownsRow w0.heap.size 33 4 (.slice ra rL rc) rL (symcs row) := by have h9 := SymO.new (w := W8) (B := w0.heap.size) (v := .slice ra rL rc) (l := row) HR8.out c10; unfold SymO at h9; rw [HRL.out] at h9; exact h9
        have hB8 : w0.heap.size ≤ (W8.alloc (.cells #[.int .i64 y.k, .int .u8 y.y, .int .i64 y.l, .int .i64 y.d] 33)).heap.size := by have := HX8.out.chg.size; rw [World.size_alloc]; omega
        have hrl : rL ≤ 1048576 := by rw [← HRL.out]; have := HRX.out.2.1; omega
        have HX10 : Hid _ := HX8.out.new S.like c10
        have HO10 : Hid _ := ownsRow_keep HO8.out c10 (fun _ _ f => f)
        go_wp2_with (at_builtin; refine wpList_append_moved rfl _ _ 22 rfl w0.heap.size 33 iy (.agg #[.int .i64 0, .int .u8 0, .int .i64 0, .int .i64 0]) 4 32 Tryd.underlying22 hiy hy0 hy1 hy2 rfl (by decide) _ rL (symcs row) rfl (some ⟨W8.heap.size, 0, none⟩) 1 1 rfl (symcs [y]) hown hsrc hone (by unfold maxLen; omega) (by omega) hB8 ?_)
        intro v9 w9 ho9 hg9 hm9
        obtain ⟨a9, d9, hv9⟩ := formSym ho9
        subst hv9
        have c9 : Chg (fun z => (Value.slice ra rL rc).ownBlock = some z) (W8.alloc (.cells #[.int .i64 y.k, .int .u8 y.y, .int .i64 y.l, .int .i64 y.d] 33)) w9 := (Chg.refl _ _).grown hg9 (fun z e => .inl e)
        have hk9 : ∀ z, (Value.slice ra rL rc).ownBlock = some z → z < (W8.alloc (.cells #[.int .i64 y.k, .int .u8 y.y, .int .i64 y.l, .int .i64 y.d] 33)).heap.size → ∃ cs tz fr, (W8.alloc (.cells #[.int .i64 y.k, .int .u8 y.y, .int .i64 y.l, .int .i64 y.d] 33)).heap[z]? = some (.cells cs tz fr) ∧ tz ≠ 84 ∧ tz ≠ 5 ∧ tz ≠ 30 := fun z e _ => by
          obtain ⟨cs, hcs⟩ := Bk.own_blk hown e
          exact ⟨cs, _, _, hcs, by decide, by decide, by decide⟩
        have HX11 : Hid _ := HX10.out.other S.like c9 (fun z e => (World.ownsRow.lt hown z e).1) hk9
        have HO11 : Hid _ := ownsRow_keep HO10.out c9 (fun z e f => by
          obtain ⟨cs, tz, fr, hb, _, k2, _⟩ := hk9 z f (World.ownsRow.lt HO10.out z e).2
          exact own_off HO10.out hb k2 z e rfl)
        have HR11 : Hid (SymO w9 w0.heap.size (.slice a9 (rL + 1) d9) (row ++ [y])) := sym_app ho9 (by rw [List.length_append, HRL.out]; rfl)
        clear ho9 hg9 hm9 c9 hk9 hown hsrc hone HX8 HO8 HX10 HO10 HR8 HY8 c10 hB8 y0 y1 y2 y3
        have hown : w9.ownsRow w0.heap.size 5 1 (.slice aa bL ca) bL (ins .u8 (nums bs)) := by have h9 := HX11.out.all; rw [HBE.out] at h9; exact h9
        have hsrc := (row8_own HO11.out).src
        have hone := one8 xs
        have hB8 : w0.heap.size ≤ w9.heap.size := HX11.out.chg.size
        have hbl : bL ≤ 273 * 1048576 := by rw [← HBE.out]; exact HBL.out
        have hml := HXL.out
        go_wp2_with (at_builtin; refine wpList_append_moved rfl _ _ 24 rfl w0.heap.size 5 iu (.int .u8 0) 1 1 Tryd.underlying24 hiu hu0 hu1 hu2 rfl (by decide) _ bL (ins .u8 (nums bs)) rfl oa m oc rfl ((nums xs).map (Value.int .u8)) hown hsrc hone (by unfold maxLen; omega) (by omega) hB8 ?_)
        intro v9 w10 ho9 hg9 hm9
        obtain ⟨b9, e9, hv9⟩ := form1 ho9
        subst hv9
        have c9 : Chg (fun z => (Value.slice aa bL ca).ownBlock = some z) w9 w10 := (Chg.refl _ w9).grown hg9 (fun z e => .inl e)
        have HX12 : Hid (Ex Win 30 w0 w10 a n v' (bs ++ xs) g9 t (.slice b9 (bL + m) e9) (bs ++ xs)) := HX11.out.grow S.like (by decide) c9 (by rw [List.length_append, HBE.out, HXM.out]; exact own_app ho9) hm9
        have HR12 : Hid (SymO w10 w0.heap.size (.slice a9 (rL + 1) d9) (row ++ [y])) := HR11.out.keep c9 (fun z e f => by
          obtain ⟨cs, hcs⟩ := HR11.out.blk e
          exact own_off hown hcs (by decide) z f rfl)
        have HLL : Hid ((bs ++ xs).length = bL + m) := by show _ = _; rw [List.length_append, HBE.out, HXM.out]
        have HRR : Hid ((row ++ [y]).length = rL + 1 ∧ (row ++ [y]).length ≤ i + 1 ∧ ∀ z ∈ row ++ [y], z.I) := ⟨by rw [List.length_append, HRL.out]; rfl, by rw [List.length_append]; have := HRX.out.2.1; simp; omega, fun z hz => by
          rcases List.mem_append.1 hz with h | h
          · exact HRX.out.2.2 z h
          · simp only [List.mem_singleton] at h
            rw [h]
            exact HII.out⟩
        clear ho9 hg9 hm9 c9 hown hsrc hone HX11 HO11 hB8 HR11
        go_wp2_with fail
        exact ⟨⟨i + 1, rL + 1, d9, bL + m, e9, a9, b9, v', row ++ [y], bs ++ xs, t, by omega, rfl, rfl, by go_num, HRR.out.1, HLL.out, HX12.out, HR12.out, HRN2.out, HRR.out.2.1, HRR.out.2.2⟩, by simp [intOf]; omega⟩
      · have q0 : (er == 0) = false := by rw [beq_eq_false_iff_ne]; exact he
        have q0' : (er != 0) = true := by simp [he]
        have q0'' : decide (er = 0) = false := decide_eq_false he
        have HXS : Hid (xs = []) := by
          have h9 := (app_refused (n := n) (bs := bs) (s := s) (y := y) (by rw [HAP.out]; exact he)).1
          rw [HAP.out] at h9
          exact h9
        have HX6 : Hid (Ex Win 30 w0 (w5.alloc (.cells #[.int .i64 t.n, .int .i64 t.a, .int .i64 t.b, .int .i64 t.c, .int .i64 t.d] 30)) a n v' bs g9 s (.slice aa bL ca) bs) := by
          have h9 := HX5.out
          rw [HXS.out, List.append_nil] at h9
          exact h9
        clear HX5 HO5 HT5 HY5 he
        go_wp2_with fail
        exact ⟨⟨i + 1, rL, rc, bL, ca, ra, aa, v', row, bs, s, by omega, rfl, rfl, by go_num, HRL.out, HBE.out, HX6.out, HR5.out, HRX.out.1, by have := HRX.out.2.1; omega, HRX.out.2.2⟩, by simp [intOf]; omega⟩
    · have hd1 : decide ((i : Int) < (len : Int)) = false := by simp; omega
      have hd1' : decide (i < len) = false := decide_eq_false hlt
      go_wp2
      go_ret3
      exact ⟨_, _, row, bs, s, rfl, HX.out.run, HX.out.rows, HX.out.ex.all, by have := HX.out.len; omega, HX.out.ok, HX.out.ex.chg⟩
end Go.Proofs.YtlnocjicmofjfaaDoor
