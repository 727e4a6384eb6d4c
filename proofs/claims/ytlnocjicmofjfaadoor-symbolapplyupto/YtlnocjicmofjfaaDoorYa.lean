/- SymbolApply's walk; of no statement by itself. -/
import Derived.Test.YtlnocjicmofjfaaDoorYp
import Derived.Test.YtlnocjicmofjfaaDoorYu
import Derived.Test.YtlnocjicmofjfaaDoorYv
import Derived.Test.YtlnocjicmofjfaaDoorBoundA
namespace Go.Proofs.YtlnocjicmofjfaaDoor
open Go.RowKit
open St12 Sy13
set_option linter.unusedVariables false
set_option linter.unusedSimpArgs false

variable {Win : World → Nat → Nat → Value → Nat → List Nat → Prop} {Tab : World → Prop}
theorem pW_nil (w : World) : (binOp .eql 44 (.pointer none) (.pointer none)).run Tryd.prog w = .ok (.bool true) w := by kernel_rfl
theorem pRW_nil (w : World) : (binOp .eql 47 (.pointer none) (.pointer none)).run Tryd.prog w = .ok (.bool true) w := by kernel_rfl
theorem pRW_ne (x : Addr) (w : World) : (binOp .eql 47 (.pointer (some x)) (.pointer none)).run Tryd.prog w = .ok (.bool false) w := by kernel_rfl
theorem tt_ne (w : World) : (binOp .neq 4 (.bool true) (.bool true)).run Tryd.prog w = .ok (.bool false) w := by kernel_rfl
theorem ff_ne (w : World) : (binOp .neq 4 (.bool false) (.bool false)).run Tryd.prog w = .ok (.bool false) w := by kernel_rfl
theorem dig_app {n : Nat} {bs : List Nat} {s : Stt} {y : Sym} (hb : Rc.Dig bs) (hy : y.I) : Rc.Dig (bs ++ (app n bs s y).1) := fun x hx => by
  rcases List.mem_append.1 hx with h | h
  · exact hb x h
  · exact app_dig hy hb x h
set_option maxHeartbeats 32000000 in
set_option maxRecDepth 100000 in
theorem apply_any (S : WinSpec Win) (Y : SymSpec Win Tab) (dict num x0 x1 x2 x3 : Int) (hd : I64 dict) (hnum : I64 num) (h0 : I64 x0) (h1 : I64 x1) (h2 : I64 x2) (h3 : I64 x3) (pa : Option Addr) (pc pL : Nat) (ps : List Nat) (ad : Option Addr) (c len : Nat) (l : List Sym) (w0 : World) (hT : Tab w0) (hpr : Row8 w0 pa pL pc (nums ps)) (hdig : Rc.Dig ps) (hpL : pL ≤ 1048576) (hL : l.length = len) (hl : SymL w0 ad l) (hle : len ≤ 1048576) : Calls Tryd.prog 6 #[.int .i64 dict, .int .i64 num, .agg #[.int .i64 x0, .int .i64 x1, .int .i64 x2, .int .i64 x3], .slice pa pL pc, .slice ad len c] w0 fun e w' => e = .returned (.bool true) ∧ Chg (fun _ => False) w0 w' := by
  obtain ⟨iu, hiu, hu0, hu1, hu2⟩ := info_parts infoU8
  have cX := chg_one w0 (.cells #[.int .i64 x0, .int .i64 x1, .int .i64 x2, .int .i64 x3] 28)
  have HXB : Hid ((w0.alloc (.cells #[.int .i64 x0, .int .i64 x1, .int .i64 x2, .int .i64 x3] 28)).heap[w0.heap.size]? = some (.cells #[.int .i64 x0, .int .i64 x1, .int .i64 x2, .int .i64 x3] 28 (0, 0))) := heap_alloc_last _ _
  have HCX : Hid _ := cX
  have HT : Hid (Tab w0) := hT
  have hnil := pW_nil
  have hnir := pRW_nil
  have hne := pW_ne
  have hnr := pRW_ne
  have htt := tt_ne
  have hff := ff_ne
  by_cases hout : dict < 1 ∨ 4294967295 < dict
  · have HN : Hid (∀ w, Calls Tryd.prog 16 #[.int .i64 dict] w fun e w' => e = .returned (.tuple #[.pointer none, .int .i64 7]) ∧ Chg (fun _ => False) w w') := fun w => S.newOut dict w hout
    have HR : Hid (∀ w, Calls Tryd.prog 17 #[.int .i64 dict] w fun e w' => e = .returned (.tuple #[.pointer none, .int .i64 7]) ∧ w = w') := fun w => rnew_out dict w hout
    clear hout cX hl hT hpr
    go_enter Tryd.func6, Tryd.ntmps6
    go_wp2_with fail
    refine (HN.out _).mono ?_
    rintro z w1 ⟨rfl, c1⟩
    have HC1 : Hid _ := chg_then HCX.out c1
    clear c1
    go_wp2_with fail
    refine (HR.out _).mono ?_
    rintro z w2 ⟨rfl, rfl⟩
    go_wp2
    go_ret
    exact ⟨rfl, HC1.out⟩
  · obtain ⟨n, rfl⟩ : ∃ n : Nat, dict = (n : Int) := ⟨dict.toNat, by omega⟩
    have hn1 : 1 ≤ n := by omega
    have hn : n ≤ 4294967295 := by omega
    have HN : Hid (∀ w, Calls Tryd.prog 16 #[.int .i64 (n : Int)] w fun e w' => ∃ a v, e = .returned (.tuple #[.pointer (some ⟨a, 0, none⟩), .int .i64 0]) ∧ Win w' w.heap.size a v n [] ∧ Chg (fun _ => False) w w') := fun w => S.newIn n w hn1 hn
    have HR : Hid (∀ w, Calls Tryd.prog 17 #[.int .i64 (n : Int)] w fun e w' => ∃ r, e = .returned (.tuple #[.pointer (some ⟨r, 0, none⟩), .int .i64 0]) ∧ Rw w' w.heap.size r (.slice none 0 0) n [] ∧ Chg (fun _ => False) w w') := fun w => rnew_in n w hn1 hn
    have HSL : Hid (SymL w0 ad l) := hl
    have HPR : Hid (Row8 w0 pa pL pc (nums ps)) := hpr
    have HDG : Hid (Rc.Dig ps) := hdig
    have HLN : Hid (l.length = len) := hL
    have HSI0 : Hid (⟨num, x0, x1, x2, x3⟩ : Stt).I := ⟨hnum, h0, h1, h2, h3⟩
    have HPL : Hid (ps.length = pL) := by have h9 := hpr.1; rw [nums_len] at h9; exact h9
    clear hout cX hl hT hpr hdig hL hnum h0 h1 h2 h3
    go_enter Tryd.func6, Tryd.ntmps6
    go_wp2_with fail
    refine (HN.out _).mono ?_
    rintro z w1 ⟨a, v0, rfl, hw1, c1⟩
    have HW1 : Hid (Win w1 w0.heap.size a v0 n []) := S.down hw1 HCX.out.size
    have HC1 : Hid (Chg (fun _ => False) w0 w1) := chg_then HCX.out c1
    have HX1 : Hid _ := blk_keep HXB.out c1 (fun f => f)
    have HLW : Hid (∀ z, Foot a v0 z → w0.heap.size ≤ z ∧ z < w1.heap.size) := fun z f => S.lt HW1.out z f
    clear c1 HXB HCX hw1 HN
    go_wp2_with fail
    refine (HR.out _).mono ?_
    rintro z w2 ⟨r, rfl, hr2, c2⟩
    have hrr : w1.heap.size ≤ r := (hr2.lt (.inl rfl)).1
    have HRR : Hid (w1.heap.size ≤ r ∧ r < w2.heap.size) := ⟨hrr, (hr2.lt (.inl rfl)).2⟩
    have HR2 : Hid (Rw w2 w0.heap.size r (.slice none 0 0) n []) := hr2.down HC1.out.size
    have HW2 : Hid (Win w2 w0.heap.size a v0 n []) := S.new HW1.out c2
    have HC2 : Hid (Chg (fun _ => False) w0 w2) := chg_then HC1.out c2
    have HX2 : Hid _ := blk_keep HX1.out c2 (fun f => f)
    clear c2 hr2 hrr HW1 HC1 HX1 HR
    have cE := chg_one w2 (.cells #[] 5)
    have hown : (w2.alloc (.cells #[] 5)).ownsRow w2.heap.size 5 1 (.slice (some ⟨w2.heap.size, 0, none⟩) 0 0) 0 [] := own_empty w2 5
    have hsrc := (Row8.src (row8_keep HPR.out HC2.out (fun _ _ f => f))).keep cE
    have hone := one8 ps
    have hszE : w2.heap.size ≤ (w2.alloc (.cells #[] 5)).heap.size := by rw [World.size_alloc]; omega
    go_wp2_with (at_builtin; refine wpList_append_moved rfl _ _ 24 rfl w2.heap.size 5 iu (.int .u8 0) 1 1 Tryd.underlying24 hiu hu0 hu1 hu2 rfl (by decide) _ 0 [] rfl pa pL pc rfl ((nums ps).map (Value.int .u8)) hown hsrc hone (by unfold maxLen; omega) (by omega) hszE ?_)
    intro v3 w3 ho3 hg3 hm3
    have c3 : Chg (fun z => (Value.slice (some ⟨w2.heap.size, 0, none⟩) 0 0).ownBlock = some z) (w2.alloc (.cells #[] 5)) w3 := (Chg.refl _ _).grown hg3 (fun z e => .inl e)
    have c23 : Chg (fun _ => False) w2 w3 := cE.trans c3 (fun z e => .inr (World.ownsRow.lt hown z e).1)
    obtain ⟨a3, d3, hv3⟩ := form1 ho3
    subst hv3
    have hr3 : Row8 w3 a3 pL d3 (nums ps) := row8_own ho3
    have HW3 : Hid (Win w3 w0.heap.size a v0 n []) := S.new HW2.out c23
    have HR3 : Hid (Rw w3 w0.heap.size r (.slice none 0 0) n []) := HR2.out.new c23
    have HC3 : Hid (Chg (fun _ => False) w0 w3) := chg_then HC2.out c23
    have HX3 : Hid _ := blk_keep HX2.out c23 (fun f => f)
    have HPUT : Hid (Calls Tryd.prog 18 #[.pointer (some ⟨a, 0, none⟩), .slice a3 pL d3] w3 fun e w' => e = .returned (.tuple #[]) ∧ ∃ v', Win w' w0.heap.size a v' n ps ∧ Chg (Foot a v0) w3 w' ∧ Moved w3 v0 v') := by
      have h9 := S.put w0.heap.size a v0 n [] a3 pL d3 ps w3 HW3.out HC3.out.size hr3 HDG.out (fun x e f => by
        have k1 := (HLW.out _ f).2
        have k2 := HRR.out
        have k3 := (World.ownsRow.lt ho3 x.block (by rw [e]; rfl)).1
        omega) (own_cap ho3) (by omega) (by simp; omega)
      rw [List.nil_append] at h9
      exact h9
    clear ho3 hg3 hm3 c3 c23 hown hsrc hone cE hszE hr3 HW2 HR2 HC2 HX2
    go_wp2_with fail
    refine Calls.mono HPUT.out ?_
    rintro z w4 ⟨rfl, v, hw4, c4, hm4⟩
    have hlt4 : ∀ z, Foot a v0 z → w0.heap.size ≤ z ∧ z < w1.heap.size := HLW.out
    have hne4 : ¬ Foot a v0 r := fun f => by have := (hlt4 _ f).2; have := HRR.out.1; omega
    have HW4 : Hid (Win w4 w0.heap.size a v n ps) := hw4
    have HR4 : Hid (Rw w4 w0.heap.size r (.slice none 0 0) n []) := HR3.out.keep c4 (fun z f e => by
      rcases f with f | f
      · rw [f] at e; exact hne4 e
      · cases f)
    have HC4 : Hid (Chg (fun _ => False) w0 w4) := HC3.out.trans c4 (fun z f => .inr (hlt4 z f).1)
    have HX4 : Hid _ := blk_keep HX3.out c4 (S.like.off HW3.out HX3.out (by decide) (by decide))
    have HF4 : Hid (∀ z, Foot a v z → z ≠ r) := fun z f e => by
      subst e
      rcases f with f | f
      · exact hne4 (.inl f)
      · rcases hm4 _ f with f | f
        · exact hne4 (.inr f)
        · have := (HR3.out.lt (.inl rfl : Foot z _ z)).2
          omega
    have HPR4 : Hid (Row8 w4 pa pL pc (nums ps)) := row8_keep HPR.out HC4.out (fun _ _ f => f)
    have HRP : Hid (Calls Tryd.prog 19 #[.pointer (some ⟨r, 0, none⟩), .slice pa pL pc] w4 fun e w' => e = .returned (.tuple #[]) ∧ ∃ v', Rw w' w0.heap.size r v' n ps ∧ Chg (Foot r (.slice none 0 0)) w4 w' ∧ Moved w4 (.slice none 0 0) v') := by
      have h9 := rput_any w0.heap.size r (.slice none 0 0) n [] pa pL pc ps w4 HR4.out HC4.out.size HPR4.out (by simp; omega)
      rw [List.nil_append] at h9
      exact h9
    clear hw4 c4 hm4 hlt4 hne4 HW3 HR3 HC3 HX3 HPUT HLW
    go_wp2_with fail
    refine Calls.mono HRP.out ?_
    rintro z w5 ⟨rfl, rv, hr5, c5, hm5⟩
    have c5' : Chg (fun z => z = r) w4 w5 := c5.mono (fun z f => by
      rcases f with f | f
      · exact .inl f
      · cases f)
    have cN := chg_one w5 (.cells #[.int .i64 num, .int .i64 x0, .int .i64 x1, .int .i64 x2, .int .i64 x3] 52)
    have HW5 : Hid (Win w5 w0.heap.size a v n ps) := S.keep HW4.out c5' (fun z f e => HF4.out z f e)
    have HA0 : Hid (Ap Win w0 (w5.alloc (.cells #[.int .i64 num, .int .i64 x0, .int .i64 x1, .int .i64 x2, .int .i64 x3] 52)) a n v ps r rv ps w5.heap.size ⟨num, x0, x1, x2, x3⟩ (.slice none 0 0) []) := by
      have hC5 : Chg (fun _ => False) w0 w5 := HC4.out.trans c5' (fun z e => .inr (by rw [e]; exact (HR4.out.lt (.inl rfl)).1))
      refine ⟨chg_then hC5 cN, S.new HW5.out cN, hr5.new cN, fun z f k => ?_, heap_alloc_last _ _, hC5.size, Bk.Bk.nil _ _, fun j x hj => by simp at hj⟩
      rcases k with k | k
      · exact HF4.out z f k
      · rcases hm5 z k with k | k
        · cases k
        · have := (S.lt HW4.out z f).2
          omega
    obtain ⟨q0, q1, q2, q3⟩ := cells4y (blk_keep HX4.out c5' (fun e => by
      have h9 := HX4.out
      rw [e] at h9
      exact ty_ne h9 HR4.out.blk (by decide)))
    clear hr5 c5 hm5 c5' cN HW4 HR4 HC4 HX4 HF4 HPR4 HRP HW5
    go_wp2_with fail
    generalize w5.alloc (.cells #[.int .i64 num, .int .i64 x0, .int .i64 x1, .int .i64 x2, .int .i64 x3] 52) = Wl at *
    generalize w5.heap.size = g15 at *
    clear q0 q1 q2 q3
    go_loopw [16, 65] (fun b1 b2 wr => ∃ (i bc : Nat) (ba : Option Addr) (v rv : Value) (bs : List Nat) (s : Stt) (hs : List Bk.Hd), i ≤ len ∧ b1 = .slice ba i bc ∧ b2 = .int .i64 (i : Int) ∧ Hid (hs.length = i ∧ Ap Win w0 wr a n v bs r rv bs g15 s (.slice ba i bc) hs ∧ s.I ∧ Rc.Dig bs ∧ bs.length ≤ 1048576 + 273 * i)) (fun _ b2 _ => len - (intOf b2).toNat)
    case atStart => exact ⟨0, 0, none, v, rv, ps, _, [], by omega, rfl, rfl, rfl, HA0.out, HSI0.out, HDG.out, by have := HPL.out; omega⟩
    case round =>
      clear HA0
      obtain ⟨i, bc, ba, v, rv, bs, s, hs, hi, rfl, rfl, HI⟩ := hrel
      have hii : (i : Int) ≤ (len : Int) := by omega
      have hle2 : (len : Int) ≤ 1048576 := by omega
      have HHL : Hid (hs.length = i) := HI.out.1
      have HA : Hid (Ap Win w0 wr a n v bs r rv bs g15 s (.slice ba i bc) hs) := HI.out.2.1
      have HSI : Hid s.I := HI.out.2.2.1
      have HDB : Hid (Rc.Dig bs) := HI.out.2.2.2.1
      have HBL : Hid (bs.length ≤ 1048576 + 273 * i) := HI.out.2.2.2.2
      clear HI
      by_cases hlt : i < len
      · have hd1 : decide ((i : Int) < (len : Int)) = true := by simp; omega
        have hd1' : decide (i < len) = true := decide_eq_true hlt
        obtain ⟨y, hy⟩ : ∃ y, l[i]? = some y := ⟨l[i]'(by have := HLN.out; omega), List.getElem?_eq_getElem _⟩
        obtain ⟨hyi, lb, lo, had, k0, k1, k2, k3⟩ := HSL.out.new HA.out.chg i y hy
        have HII : Hid y.I := hyi
        have cY := chg_one wr (.cells #[.int .i64 y.k, .int .u8 y.y, .int .i64 y.l, .int .i64 y.d] 33)
        have HYB : Hid ((wr.alloc (.cells #[.int .i64 y.k, .int .u8 y.y, .int .i64 y.l, .int .i64 y.d] 33)).heap[wr.heap.size]? = some (.cells #[.int .i64 y.k, .int .u8 y.y, .int .i64 y.l, .int .i64 y.d] 33 (0, 0))) := heap_alloc_last _ _
        have HAA : Hid (Ap Win w0 (wr.alloc (.cells #[.int .i64 y.k, .int .u8 y.y, .int .i64 y.l, .int .i64 y.d] 33)) a n v bs r rv bs g15 s (.slice ba i bc) hs) := HA.out.new S cY
        have HST : Hid ((wr.alloc (.cells #[.int .i64 y.k, .int .u8 y.y, .int .i64 y.l, .int .i64 y.d] 33)).heap[g15]? = some (.cells #[.int .i64 s.n, .int .i64 s.a, .int .i64 s.b, .int .i64 s.c, .int .i64 s.d] 52 (0, 0))) := HAA.out.st
        have HNF : Hid (¬ Foot a v g15) := S.like.off HAA.out.win HAA.out.st (by decide) (by decide)
        have HNY : Hid (¬ Foot a v wr.heap.size) := S.like.off HAA.out.win HYB.out (by decide) (by decide)
        have HLT : Hid (∀ z, Foot a v z → z < (wr.alloc (.cells #[.int .i64 y.k, .int .u8 y.y, .int .i64 y.l, .int .i64 y.d] 33)).heap.size) := fun z f => (S.lt HAA.out.win z f).2
        obtain ⟨xs, t, er, hap⟩ : ∃ xs t er, app n bs s y = (xs, t, er) := ⟨_, _, _, rfl⟩
        have HAP : Hid (app n bs s y = (xs, t, er)) := hap
        have HAY : Hid (∀ w_, Chg (fun _ => False) (wr.alloc (.cells #[.int .i64 y.k, .int .u8 y.y, .int .i64 y.l, .int .i64 y.d] 33)) w_ → Calls Tryd.prog 20 #[.pointer (some ⟨a, 0, none⟩), .agg #[.int .i64 s.n, .int .i64 s.a, .int .i64 s.b, .int .i64 s.c, .int .i64 s.d], .agg #[.int .i64 y.k, .int .u8 y.y, .int .i64 y.l, .int .i64 y.d]] w_ fun e w' => ∃ ov v', e = .returned (.tuple #[ov, .agg #[.int .i64 t.n, .int .i64 t.a, .int .i64 t.b, .int .i64 t.c, .int .i64 t.d], .int .i64 er]) ∧ Made Win w0.heap.size w_.heap.size a n (bs ++ xs) xs ov v' w' ∧ Chg (Foot a v) w_ w' ∧ Moved w_ v v') := fun w_ hc => by
          have hx := HAA.out.new S hc
          have h9 := Y.apply w0 a v n bs s y w_ HT.out (Y.new HT.out hx.chg) hx.chg.size hx.win HSI.out HII.out (by have := HBL.out; omega)
          rw [HAP.out] at h9
          exact h9.mono fun e w' ⟨ov, v', h1, h2, h3, h4, h5, h6⟩ => ⟨ov, v', h1, ⟨h2, h3, h4⟩, h5, h6⟩
        have HRY : Hid (∀ w_ v_ wb_ , Ap Win w0 w_ a n v_ wb_ r rv bs g15 s (.slice ba i bc) hs → Calls Tryd.prog 22 #[.pointer (some ⟨r, 0, none⟩), .agg #[.int .i64 s.n, .int .i64 s.a, .int .i64 s.b, .int .i64 s.c, .int .i64 s.d], .agg #[.int .i64 y.k, .int .u8 y.y, .int .i64 y.l, .int .i64 y.d]] w_ fun e w' => ∃ ov v', e = .returned (.tuple #[ov, .agg #[.int .i64 t.n, .int .i64 t.a, .int .i64 t.b, .int .i64 t.c, .int .i64 t.d], .int .i64 er]) ∧ Made Rw w0.heap.size w_.heap.size r n (bs ++ xs) xs ov v' w' ∧ Chg (Foot r rv) w_ w' ∧ Moved w_ rv v') := fun w_ v_ wb_ hx => by
          have h9 := rapply_any w0.heap.size r rv n bs s.n s.a s.b s.c s.d y.k y.y y.l y.d HSI.out HII.out w_ hx.rw hx.chg.size hn (by have := HBL.out; omega)
          simp only [show (⟨s.n, s.a, s.b, s.c, s.d⟩ : Stt) = s from rfl, show (⟨y.k, y.y, y.l, y.d⟩ : Sym) = y from rfl, HAP.out] at h9
          exact h9
        have HOF : Hid (∀ w_, Calls Tryd.prog 21 #[.agg #[.int .i64 s.n, .int .i64 s.a, .int .i64 s.b, .int .i64 s.c, .int .i64 s.d]] w_ fun e w' => e = .returned (.agg #[.int .i64 s.n, .int .i64 s.a, .int .i64 s.b, .int .i64 s.c, .int .i64 s.d]) ∧ Chg (fun _ => False) w_ w') := fun w_ => ofref_q s.n s.a s.b s.c s.d w_
        have HAL : Hid (∀ w_, Calls Tryd.prog 23 #[.agg #[.int .i64 t.n, .int .i64 t.a, .int .i64 t.b, .int .i64 t.c, .int .i64 t.d], .agg #[.int .i64 t.n, .int .i64 t.a, .int .i64 t.b, .int .i64 t.c, .int .i64 t.d]] w_ fun e w' => e = .returned (.bool true) ∧ Chg (fun _ => False) w_ w') := fun w_ => alike_q t.n t.a t.b t.c t.d w_
        have HDI : Hid (Rc.Dig (bs ++ xs) ∧ xs.length ≤ 273 ∧ t.I) := by
          have h9 := dig_app (n := n) (s := s) HDB.out HII.out
          have h8 := app_len_le n bs s y
          have h7 := app_I n bs s y
          rw [HAP.out] at h9 h8 h7
          exact ⟨h9, h8, h7⟩
        have HER : Hid (er ≠ 0 → xs = []) := fun he => by
          have h9 := (app_refused (n := n) (bs := bs) (s := s) (y := y) (by rw [HAP.out]; exact he)).1
          rw [HAP.out] at h9
          exact h9
        clear hy hyi hap cY HA
        subst had
        go_wp2_with fail
        generalize hW0 : wr.alloc (.cells #[.int .i64 y.k, .int .u8 y.y, .int .i64 y.l, .int .i64 y.d] 33) = W0 at *
        clear hW0
        generalize wr.heap.size = gy at *
        clear k0 k1 k2 k3
        refine wp_region_setM (mk := fun u => #[_, _, _, _, _, _, _, _, _, _, _, _, _, _, _, _, _, _, _, u 19, u 20, _, _, _, _, _, _, _, _, _, _, _, _, _, _, _, _, _, _, _, _, _, _, _, _, _, _, _, _, _, _, _, _, _, _, _, _, _, _, _, _, _, _, _, _, _, _, _, _, u 69, u 70, u 71, u 72, u 73, u 74, u 75, u 76, u 77, _, _, _, _, _, _, _, _, _, _, _, _, _, _, _, _, _, _, _, _, _, _, _, _, _, _, _, _, _, _, _, _, _, _, _, _, _, _, _, _, _, _, _, _, _, _, _, _, _, _, _, _, _, _, _, _, _, _, _, _, _, _, _, _, _, _, _, _, _, _, _, _, _, _, _, _, _, _, _, _, _, _]) (G := lookG [(70, .pointer (some ⟨a, 0, none⟩)), (71, .agg #[.int .i64 s.n, .int .i64 s.a, .int .i64 s.b, .int .i64 s.c, .int .i64 s.d]), (72, .agg #[.int .i64 s.n, .int .i64 s.a, .int .i64 s.b, .int .i64 s.c, .int .i64 s.d]), (73, .agg #[.int .i64 y.k, .int .u8 y.y, .int .i64 y.l, .int .i64 y.d])]) (J := fun L_ u ww => Chg (Foot a v) W0 ww ∧ ((L_ 4 = false ∧ L_ 5 = false ∧ L_ 6 = false ∧ L_ 7 = false ∧ L_ 8 = false ∧ L_ 10 = false ∧ L_ 11 = false ∧ Chg (fun _ => False) W0 ww) ∨ (L_ 2 = true ∧ L_ 4 = true ∧ ∃ ov v', u 74 = .tuple #[ov, .agg #[.int .i64 t.n, .int .i64 t.a, .int .i64 t.b, .int .i64 t.c, .int .i64 t.d], .int .i64 er] ∧ (L_ 5 = true → u 69 = .tuple #[ov, .agg #[.int .i64 t.n, .int .i64 t.a, .int .i64 t.b, .int .i64 t.c, .int .i64 t.d], .int .i64 er]) ∧ (L_ 6 = true → u 75 = ov) ∧ (L_ 7 = true → u 76 = .agg #[.int .i64 t.n, .int .i64 t.a, .int .i64 t.b, .int .i64 t.c, .int .i64 t.d]) ∧ (L_ 8 = true → u 77 = .int .i64 er) ∧ (L_ 10 = true → u 19 = ov) ∧ (Made Win w0.heap.size W0.heap.size a n (bs ++ xs) xs ov v' ww ∧ Moved W0 v v'))) ∧ (L_ 9 = true → ∃ b7, u 20 = .pointer (some ⟨b7, 0, none⟩) ∧ W0.heap.size ≤ b7 ∧ ww.heap[b7]? = some (.cells (if L_ 11 = true then #[.int .i64 t.n, .int .i64 t.a, .int .i64 t.b, .int .i64 t.c, .int .i64 t.d] else #[.int .i64 0, .int .i64 0, .int .i64 0, .int .i64 0, .int .i64 0]) 30 (0, 0))) ∧ (L_ 11 = true → L_ 9 = true)) [2, 4, 5, 6, 7, 8, 10, 9, 11] ([]) (fun q => match q with | 19 => u19 | 20 => u20 | 69 => u69 | 70 => u70 | 71 => u71 | 72 => u72 | 73 => u73 | 74 => u74 | 75 => u75 | 76 => u76 | 77 => u77 | _ => undef) rfl (by kernel_rfl) 12 _ rfl rfl (by kernel_rfl) (by kernel_rfl) ?_ ?_ ?_ ?_ ?_
        · repeat (refine ⟨fun _ _ => rfl, ?_⟩)
          exact trivial
        · intro L_ L2 u u2 ww h hj
          have l2_ : L_ 2 = L2 2 := (h 2 (by decide)).1
          have l4_ : L_ 4 = L2 4 := (h 4 (by decide)).1
          have e4_ : u 74 = u2 74 := (h 4 (by decide)).2
          have l5_ : L_ 5 = L2 5 := (h 5 (by decide)).1
          have e5_ : u 69 = u2 69 := (h 5 (by decide)).2
          have l6_ : L_ 6 = L2 6 := (h 6 (by decide)).1
          have e6_ : u 75 = u2 75 := (h 6 (by decide)).2
          have l7_ : L_ 7 = L2 7 := (h 7 (by decide)).1
          have e7_ : u 76 = u2 76 := (h 7 (by decide)).2
          have l8_ : L_ 8 = L2 8 := (h 8 (by decide)).1
          have e8_ : u 77 = u2 77 := (h 8 (by decide)).2
          have l10_ : L_ 10 = L2 10 := (h 10 (by decide)).1
          have e10_ : u 19 = u2 19 := (h 10 (by decide)).2
          have l9_ : L_ 9 = L2 9 := (h 9 (by decide)).1
          have e9_ : u 20 = u2 20 := (h 9 (by decide)).2
          have l11_ : L_ 11 = L2 11 := (h 11 (by decide)).1
          show _ ∧ _
          rw [← l2_, ← l4_, ← e4_, ← l5_, ← e5_, ← l6_, ← e6_, ← l7_, ← e7_, ← l8_, ← e8_, ← l10_, ← e10_, ← l9_, ← e9_, ← l11_]
          exact hj
        · exact ⟨(Chg.refl _ W0).drew, .inl ⟨rfl, rfl, rfl, rfl, rfl, rfl, rfl, (Chg.refl _ W0).drew⟩, (fun h => nomatch h), (fun h => nomatch h)⟩
        · refine ⟨?_, ?_, ?_, ?_, ?_, ?_, ?_, ?_, ?_, ?_, ?_, ?_, trivial⟩
          · show StepRS _ _ _ _ _ _ _ _ -- 70
            unfold StepRS
            intro L_ u w_ hj hd K hK
            clear hd
            have hc := hj.1
            clear hj hc
            go_simp
            exact hK.out _ rfl
          · show StepRS _ _ _ _ _ _ _ _ -- 71
            unfold StepRS
            intro L_ u w_ hj hd K hK
            clear hd
            have hc := hj.1
            obtain ⟨x0, x1, x2, x3, x4⟩ := cells5 (blk_keep HST.out hc HNF.out)
            clear hj hc
            go_simp
            exact hK.out _ rfl
          · show StepWS _ _ _ _ _ _ _ _ _ -- 72
            unfold StepWS
            intro L_ u w_ hj hli hwt hd K hK
            have h71 : u 71 = .agg #[.int .i64 s.n, .int .i64 s.a, .int .i64 s.b, .int .i64 s.c, .int .i64 s.d] := hd.get 1 (by kernel_rfl)
            clear hd
            simp only [h71] at hK
            obtain ⟨hc, hm, ha, hs⟩ := hj
            rcases hm with ⟨n74, n69, n75, n76, n77, n19, ns, hF⟩ | ⟨l72, l74, _⟩
            · go_simp
              refine Calls.mono (HOF.out w_) ?_
              rintro z w2 ⟨rfl, c2⟩
              exact hK.out _ w2 ⟨hc.trans c2 (fun _ f => f.elim), .inl ⟨n74, n69, n75, n76, n77, n19, ns, chg_then hF c2⟩, (fun e => by obtain ⟨b7, e7, hb7, hk7⟩ := ha e; exact ⟨b7, e7, hb7, blk_keep hk7 c2 (fun f => f)⟩), hs⟩ rfl
            · rw [l72] at hli; cases hli
          · show StepRS _ _ _ _ _ _ _ _ -- 73
            unfold StepRS
            intro L_ u w_ hj hd K hK
            clear hd
            have hc := hj.1
            obtain ⟨x0, x1, x2, x3⟩ := cells4y (blk_keep HYB.out hc HNY.out)
            clear hj hc
            go_simp
            exact hK.out _ rfl
          · show StepWS _ _ _ _ _ _ _ _ _ -- 74
            unfold StepWS
            intro L_ u w_ hj hli hwt hd K hK
            have h70 : u 70 = .pointer (some ⟨a, 0, none⟩) := hd.get 0 (by kernel_rfl)
            have h72 : u 72 = .agg #[.int .i64 s.n, .int .i64 s.a, .int .i64 s.b, .int .i64 s.c, .int .i64 s.d] := hd.get 2 (by kernel_rfl)
            have h73 : u 73 = .agg #[.int .i64 y.k, .int .u8 y.y, .int .i64 y.l, .int .i64 y.d] := hd.get 3 (by kernel_rfl)
            clear hd
            simp only [h70, h72, h73] at hK
            obtain ⟨hc, hm, ha, hs⟩ := hj
            rcases hm with ⟨n74, n69, n75, n76, n77, n19, ns, hF⟩ | ⟨l72, l74, _⟩
            · have m69 : ¬ L_ 5 = true := by rw [n69]; decide
              have m75 : ¬ L_ 6 = true := by rw [n75]; decide
              have m76 : ¬ L_ 7 = true := by rw [n76]; decide
              have m77 : ¬ L_ 8 = true := by rw [n77]; decide
              have m19 : ¬ L_ 10 = true := by rw [n19]; decide
              have l72 : L_ 2 = true := hwt ⟨2, .data⟩ (by simp) rfl
              go_simp
              refine Calls.mono (HAY.out w_ hF) ?_
              rintro z w2 ⟨ov, v', rfl, hm9, c2, hmv⟩
              skip
              exact hK.out _ w2 ⟨hc.trans c2 (fun z f => .inl f), .inr ⟨l72, rfl, ov, v', rfl, (fun e => absurd e m69), (fun e => absurd e m75), (fun e => absurd e m76), (fun e => absurd e m77), (fun e => absurd e m19), ⟨hm9.base hF.size, moved_from hF.size hmv⟩⟩, (fun e => by obtain ⟨b7, e7, hb7, hk7⟩ := ha e; exact ⟨b7, e7, hb7, blk_keep hk7 c2 (fun f => by have := HLT.out b7 f; omega)⟩), hs⟩ trivial
            · rw [l74] at hli; cases hli
          · show StepWS _ _ _ _ _ _ _ _ _ -- 69
            unfold StepWS
            intro L_ u w_ hj hli hwt hd K hK
            clear hd
            obtain ⟨hc, hm, ha, hs⟩ := hj
            have lopr : L_ 4 = true := hwt ⟨4, .data⟩ (by simp) rfl
            rcases hm with ⟨n74, n69, n75, n76, n77, n19, ns, hF⟩ | ⟨l72, l74, ov, v', e74, q69, q75, q76, q77, q19, hp⟩
            · rw [n74] at lopr; cases lopr
            · have eo := e74
              have HPH : Hid _ := hp
              clear hp
              simp only [eo] at hK ⊢
              go_simp
              exact hK.out _ _ ⟨hc, .inr ⟨l72, l74, ov, v', e74, (fun _ => rfl), q75, q76, q77, q19, HPH.out⟩, ha, hs⟩ trivial
          · show StepWS _ _ _ _ _ _ _ _ _ -- 75
            unfold StepWS
            intro L_ u w_ hj hli hwt hd K hK
            clear hd
            obtain ⟨hc, hm, ha, hs⟩ := hj
            have lopr : L_ 5 = true := hwt ⟨5, .data⟩ (by simp) rfl
            rcases hm with ⟨n74, n69, n75, n76, n77, n19, ns, hF⟩ | ⟨l72, l74, ov, v', e74, q69, q75, q76, q77, q19, hp⟩
            · rw [n69] at lopr; cases lopr
            · have eo := q69 lopr
              have HPH : Hid _ := hp
              clear hp
              simp only [eo, e74] at hK ⊢
              go_simp
              exact hK.out _ _ ⟨hc, .inr ⟨l72, l74, ov, v', e74, q69, (fun _ => rfl), q76, q77, q19, HPH.out⟩, ha, hs⟩ trivial
          · show StepWS _ _ _ _ _ _ _ _ _ -- 76
            unfold StepWS
            intro L_ u w_ hj hli hwt hd K hK
            clear hd
            obtain ⟨hc, hm, ha, hs⟩ := hj
            have lopr : L_ 5 = true := hwt ⟨5, .data⟩ (by simp) rfl
            rcases hm with ⟨n74, n69, n75, n76, n77, n19, ns, hF⟩ | ⟨l72, l74, ov, v', e74, q69, q75, q76, q77, q19, hp⟩
            · rw [n69] at lopr; cases lopr
            · have eo := q69 lopr
              have HPH : Hid _ := hp
              clear hp
              simp only [eo, e74] at hK ⊢
              go_simp
              exact hK.out _ _ ⟨hc, .inr ⟨l72, l74, ov, v', e74, q69, q75, (fun _ => rfl), q77, q19, HPH.out⟩, ha, hs⟩ trivial
          · show StepWS _ _ _ _ _ _ _ _ _ -- 77
            unfold StepWS
            intro L_ u w_ hj hli hwt hd K hK
            clear hd
            obtain ⟨hc, hm, ha, hs⟩ := hj
            have lopr : L_ 5 = true := hwt ⟨5, .data⟩ (by simp) rfl
            rcases hm with ⟨n74, n69, n75, n76, n77, n19, ns, hF⟩ | ⟨l72, l74, ov, v', e74, q69, q75, q76, q77, q19, hp⟩
            · rw [n69] at lopr; cases lopr
            · have eo := q69 lopr
              have HPH : Hid _ := hp
              clear hp
              simp only [eo, e74] at hK ⊢
              go_simp
              exact hK.out _ _ ⟨hc, .inr ⟨l72, l74, ov, v', e74, q69, q75, q76, (fun _ => rfl), q19, HPH.out⟩, ha, hs⟩ trivial
          · show StepWS _ _ _ _ _ _ _ _ _ -- 20
            unfold StepWS
            intro L_ u w_ hj hli hwt hd K hK
            clear hd
            obtain ⟨hc, hm, ha, hs⟩ := hj
            have nal_ : L_ 9 ≠ true := by rw [hli]; decide
            have nst_ : ¬ L_ 11 = true := fun e => nal_ (hs e)
            have c2 := chg_one w_ (.cells #[.int .i64 0, .int .i64 0, .int .i64 0, .int .i64 0, .int .i64 0] 30)
            rcases hm with ⟨n74, n69, n75, n76, n77, n19, ns, hF⟩ | ⟨l72, l74, ov, v', e74, q69, q75, q76, q77, q19, hp⟩
            · go_simp
              refine hK.out _ _ ⟨hc.trans c2 (fun _ f => f.elim), .inl ⟨n74, n69, n75, n76, n77, n19, ns, chg_then hF c2⟩, fun _ => ⟨_, rfl, hc.size, ?_⟩, fun _ => rfl⟩ trivial
              show _ = some (Obj.cells (if L_ 11 = true then #[.int .i64 t.n, .int .i64 t.a, .int .i64 t.b, .int .i64 t.c, .int .i64 t.d] else #[.int .i64 0, .int .i64 0, .int .i64 0, .int .i64 0, .int .i64 0]) 30 (0, 0))
              rw [if_neg nst_]
              exact heap_alloc_last _ _
            · have c := c2
              have HP := (And.intro (hp.1.new S.like c) hp.2)
              simp only [e74] at hK ⊢
              go_simp
              refine hK.out _ _ ⟨hc.trans c2 (fun _ f => f.elim), .inr ⟨l72, l74, ov, v', e74, q69, q75, q76, q77, q19, HP⟩, fun _ => ⟨_, rfl, hc.size, ?_⟩, fun _ => rfl⟩ trivial
              show _ = some (Obj.cells (if L_ 11 = true then #[.int .i64 t.n, .int .i64 t.a, .int .i64 t.b, .int .i64 t.c, .int .i64 t.d] else #[.int .i64 0, .int .i64 0, .int .i64 0, .int .i64 0, .int .i64 0]) 30 (0, 0))
              rw [if_neg nst_]
              exact heap_alloc_last _ _
          · show StepWS _ _ _ _ _ _ _ _ _ -- 19
            unfold StepWS
            intro L_ u w_ hj hli hwt hd K hK
            clear hd
            obtain ⟨hc, hm, ha, hs⟩ := hj
            have lopr : L_ 6 = true := hwt ⟨6, .data⟩ (by simp) rfl
            rcases hm with ⟨n74, n69, n75, n76, n77, n19, ns, hF⟩ | ⟨l72, l74, ov, v', e74, q69, q75, q76, q77, q19, hp⟩
            · rw [n75] at lopr; cases lopr
            · have eo := q75 lopr
              have HPH : Hid _ := hp
              clear hp
              simp only [eo, e74] at hK ⊢
              go_simp
              exact hK.out _ _ ⟨hc, .inr ⟨l72, l74, ov, v', e74, q69, q75, q76, q77, (fun _ => rfl), HPH.out⟩, ha, hs⟩ trivial
          · show StepWS _ _ _ _ _ _ _ _ _ -- #11
            unfold StepWS
            intro L_ u w_ hj hli hwt hd K hK
            clear hd
            obtain ⟨hc, hm, ha, hs⟩ := hj
            have lal_ : L_ 9 = true := hwt ⟨9, .data⟩ (by simp) rfl
            have lopr : L_ 7 = true := hwt ⟨7, .data⟩ (by simp) rfl
            have nst_ : ¬ L_ 11 = true := by rw [hli]; decide
            rcases hm with ⟨n74, n69, n75, n76, n77, n19, ns, hF⟩ | ⟨l72, l74, ov, v', e74, q69, q75, q76, q77, q19, hp⟩
            · rw [n76] at lopr; cases lopr
            · have eo := q76 lopr
              obtain ⟨b7, e7, hb7, hk7⟩ := ha lal_
              rw [if_neg nst_] at hk7
              obtain ⟨⟨p0, f0⟩, ⟨p1, f1⟩, ⟨p2, f2⟩, ⟨p3, f3⟩, ⟨p4, f4⟩, hblk, c⟩ := put5_of hk7 (.int .i64 t.n) (.int .i64 t.a) (.int .i64 t.b) (.int .i64 t.c) (.int .i64 t.d)
              have hb := hk7
              have HP : Hid _ := (And.intro (hp.1.off S.like hb (by decide) (by decide) c) hp.2)
              have HL9 : Hid (L_ 9 = true) := lal_
              have HBK : Hid _ := hblk
              have HCH : Hid (Chg (Foot a v) W0 _) := hc.trans c (fun z e => .inr (by omega))
              have HQ : Hid _ := (And.intro l72 (And.intro l74 (And.intro e74 (And.intro q69 (And.intro q75 (And.intro q76 (And.intro q77 q19)))))))
              clear lal_ nst_ ha hs hblk c hc l72 l74 e74 q69 q75 q76 q77 q19 hp hk7 hb
              simp only [e7, eo] at hK ⊢
              go_simp
              obtain ⟨l72, l74, e74, q69, q75, q76, q77, q19⟩ := HQ.out
              exact hK.out undef _ ⟨HCH.out, .inr ⟨l72, l74, ov, v', e74, q69, q75, q76, q77, q19, HP.out⟩, fun _ => ⟨b7, e7, hb7, HBK.out⟩, fun _ => HL9.out⟩ trivial
        · intro u w7 hj hA K hK
          obtain ⟨hc7, hm, ha, _⟩ := hj
          rcases hm with ⟨n74, _⟩ | ⟨_, _, ov, v', e74, _, q75, _, q77, q19, hp⟩
          · cases n74
          have e19 : u 19 = ov := q19 rfl
          have e77 : u 77 = .int .i64 er := q77 rfl
          obtain ⟨b7, e20, hb7, hk7⟩ := ha rfl
          rw [if_pos rfl] at hk7
          obtain ⟨ha7, hl7⟩ := HAA.out.prog S hp.1 hc7 hp.2
          have HA7 : Hid (Ap Win w0 w7 a n v' (bs ++ xs) r rv bs g15 s (.slice ba i bc) hs) := ha7
          have HL7 : Hid _ := hl7
          have HK7 : Hid (w7.heap[b7]? = some (.cells #[.int .i64 t.n, .int .i64 t.a, .int .i64 t.b, .int .i64 t.c, .int .i64 t.d] 30 (0, 0))) := hk7
          have HY7 : Hid (w7.heap[gy]? = some (.cells #[.int .i64 y.k, .int .u8 y.y, .int .i64 y.l, .int .i64 y.d] 33 (0, 0))) := blk_keep HYB.out hc7 HNY.out
          clear hA hc7 e74 q75 q77 q19 hp ha hb7 hk7 ha7 hl7 HAA HST HNF HNY HLT HAY HOF HYB
          obtain ⟨s0, s1, s2, s3, s4⟩ := cells5 (show w7.heap[g15]? = some (.cells #[.int .i64 s.n, .int .i64 s.a, .int .i64 s.b, .int .i64 s.c, .int .i64 s.d] 52 (0, 0)) from HA7.out.st)
          obtain ⟨y0, y1, y2, y3⟩ := cells4y HY7.out
          simp only [e19, e20, e77]
          go_simp
          refine hK.out _ _ ?_
          clear hK e19 e20 e77
          go_wp2_with fail
          refine (HRY.out _ _ _ HA7.out).mono ?_
          rintro z w8 ⟨cv, rv', rfl, hm8, c8, hmv8⟩
          have cT := chg_one w8 (.cells #[.int .i64 t.n, .int .i64 t.a, .int .i64 t.b, .int .i64 t.c, .int .i64 t.d] 52)
          obtain ⟨ha8, hl8⟩ := HA7.out.ref S HL7.out hm8 c8 hmv8
          have HA8 : Hid (Ap Win w0 (w8.alloc (.cells #[.int .i64 t.n, .int .i64 t.a, .int .i64 t.b, .int .i64 t.c, .int .i64 t.d] 52)) a n v' (bs ++ xs) r rv' (bs ++ xs) g15 s (.slice ba i bc) hs) := ha8.new S cT
          have HL8 : Hid _ := hl8.new cT
          have HK8 : Hid ((w8.alloc (.cells #[.int .i64 t.n, .int .i64 t.a, .int .i64 t.b, .int .i64 t.c, .int .i64 t.d] 52)).heap[b7]? = some (.cells #[.int .i64 t.n, .int .i64 t.a, .int .i64 t.b, .int .i64 t.c, .int .i64 t.d] 30 (0, 0))) := blk_keep (blk_keep HK7.out c8 (rw_like.off HA7.out.rw HK7.out (by decide) (by decide))) cT (fun f => f)
          have HT8 : Hid ((w8.alloc (.cells #[.int .i64 t.n, .int .i64 t.a, .int .i64 t.b, .int .i64 t.c, .int .i64 t.d] 52)).heap[w8.heap.size]? = some (.cells #[.int .i64 t.n, .int .i64 t.a, .int .i64 t.b, .int .i64 t.c, .int .i64 t.d] 52 (0, 0))) := heap_alloc_last _ _
          have hcO := ownsRow_keep hm8.out cT (fun _ _ f => f)
          obtain ⟨m, hm⟩ : ∃ m, xs.length = m := ⟨_, rfl⟩
          have HXM : Hid (xs.length = m) := hm
          rw [hm] at hcO HL8
          have hmx : m ≤ 273 := by rw [← hm]; exact HDI.out.2.1
          obtain ⟨oa, oc, hov⟩ := form1 HL8.out.own
          subst hov
          obtain ⟨da, dc, hcv⟩ := form1 hcO
          subst hcv
          have cb := conv_own HL8.out.own
          have cc := conv_own hcO
          obtain ⟨t0, t1, t2, t3, t4⟩ := cells5 HK8.out
          obtain ⟨z0, z1, z2, z3, z4⟩ := cells5 HT8.out
          clear hm8 c8 hmv8 cT ha8 hl8 hcO hm HA7 HL7 HK7 HY7 HRY s0 s1 s2 s3 s4 y0 y1 y2 y3
          generalize strOfNums (nums xs) = sX at *
          generalize hW8 : w8.alloc (.cells #[.int .i64 t.n, .int .i64 t.a, .int .i64 t.b, .int .i64 t.c, .int .i64 t.d] 52) = W8 at *
          have HSW : Hid (W8.heap.size = w8.heap.size + 1) := by rw [← hW8]; exact World.size_alloc _ _
          go_wp2_with fail
          clear hW8
          refine (HAL.out _).mono ?_
          rintro z w9 ⟨rfl, c9⟩
          have HA9 : Hid (Ap Win w0 w9 a n v' (bs ++ xs) r rv' (bs ++ xs) g15 s (.slice ba i bc) hs) := HA8.out.new S c9
          have HL9 : Hid (Lo w0 w9 a v' r rv' hs (.slice oa m oc) m xs) := HL8.out.new c9
          have HT9 : Hid (w9.heap[w8.heap.size]? = some (.cells #[.int .i64 t.n, .int .i64 t.a, .int .i64 t.b, .int .i64 t.c, .int .i64 t.d] 52 (0, 0))) := blk_keep HT8.out c9 (fun f => f)
          clear c9 cb cc t0 t1 t2 t3 t4 z0 z1 z2 z3 z4 HA8 HL8 HK8 HT8
          by_cases he : er = 0
          · subst he
            obtain ⟨z0, z1, z2, z3, z4⟩ := cells5 HT9.out
            have hst : w9.heap[g15]? = some (.cells #[.int .i64 s.n, .int .i64 s.a, .int .i64 s.b, .int .i64 s.c, .int .i64 s.d] 52 (0, 0)) := HA9.out.st
            obtain ⟨⟨p0, f0⟩, ⟨p1, f1⟩, ⟨p2, f2⟩, ⟨p3, f3⟩, ⟨p4, f4⟩, hblk, hchg⟩ := put5_of hst (.int .i64 t.n) (.int .i64 t.a) (.int .i64 t.b) (.int .i64 t.c) (.int .i64 t.d)
            have HA10 : Hid (Ap Win w0 _ a n v' (bs ++ xs) r rv' (bs ++ xs) g15 t (.slice ba i bc) hs) := HA9.out.store S hchg hblk
            have HL10 : Hid (Lo w0 _ a v' r rv' hs (.slice oa m oc) m xs) := HL9.out.off hst (by decide) hchg
            clear hst hblk hchg HA9 HL9
            go_upto_region 20 with fail
            generalize ((((w9.setCell ⟨g15, 0, none⟩ (.int .i64 t.n)).setCell ⟨g15, 1, none⟩ (.int .i64 t.a)).setCell ⟨g15, 2, none⟩ (.int .i64 t.b)).setCell ⟨g15, 3, none⟩ (.int .i64 t.c)).setCell ⟨g15, 4, none⟩ (.int .i64 t.d) = W10 at *
            clear z0 z1 z2 z3 z4 p0 f0 p1 f1 p2 f2 p3 f3 p4 f4 HT9
            have hhold := Bk.hold_any w0.heap.size (.slice oa m oc) (nums xs) m i W10 (by omega) HL10.out.own HA10.out.chg.size (by omega)
            have HHOLD : Hid _ := hhold
            clear hhold
            go_wp2_with fail
            refine Calls.mono HHOLD.out ?_
            rintro z w18 ⟨hb, vab, vcb, rfl, hva, hok, hhn, hrow, hc3, hm3⟩
            have HCE : Hid (hb.cells = [.slice vab hb.ys.length vcb, .int .i64 hb.n, .int .u8 hb.mark, .string hb.want, .bool hb.kept]) := by show Bk.Hd.cells _ = _; unfold Bk.Hd.cells; rw [hva]
            have hhn1 : hb.n ≤ 1099511627776 := by rw [hhn]; omega
            have hbk := bk_keep HA10.out.book hc3 (fun g e f => by
              obtain ⟨cur2, hcur2⟩ := owns_blk HL10.out.own f
              exact book_off HA10.out.book hcur2 (by decide) g e rfl) (fun j x hj g e f => HL10.out.rows j x hj g e f)
            have hal := fun o => hbk.book.alloc o
            rw [show hs.length = i from HHL.out] at hal
            have hsz4 : w0.heap.size ≤ w18.heap.size := Nat.le_trans HA10.out.chg.size hc3.size
            have HM3 : Hid (Moved W10 (.slice oa m oc) hb.v) := hm3
            have HC3 : Hid (Chg (fun b => (Value.slice oa m oc).ownBlock = some b) W10 w18) := hc3
            have HROW : Hid (Bk.Row w0.heap.size w18 hb) := hrow
            have HOK : Hid (hb.ok ∧ hb.n ≤ 1099511627776) := ⟨hok, hhn1⟩
            clear hva hok hhn hrow hc3 hm3 hhn1 HHOLD hbk
            obtain ⟨j0, hj, hj0, hj1, hj2⟩ := info_parts Bk.infoHeld
            go_wp2_with (at_builtin; refine wpList_append_moved rfl _ _ 53 rfl w0.heap.size 61 j0 (.agg #[.slice none 0 0, .int .i64 0, .int .u8 0, .string ⟨#[]⟩, .bool false]) 5 64 Tryd.underlying53 hj hj0 hj1 hj2 rfl (by decide) _ i (Bk.hcells hs) rfl (some ⟨w18.heap.size, 0, none⟩) 1 1 rfl [.slice vab hb.ys.length vcb, .int .i64 hb.n, .int .u8 hb.mark, .string hb.want, .bool hb.kept] (hal _) (Bk.from_held _ w18.heap.size rfl _ _ _ _ _) (Bk.held_one _ _ _ _ _ _ _ _ rfl) (by unfold maxLen; omega) (by omega) (Nat.le_trans hsz4 (by rw [World.size_alloc]; omega)) ?_)
            intro lvb w19 hown4 hg4 hm4
            rw [← HCE.out] at hown4
            have HA19 : Hid (Ap Win w0 w19 a n v' (bs ++ xs) r rv' (bs ++ xs) g15 t lvb (hs ++ [hb])) := HA10.out.hold S HL10.out HC3.out HM3.out HROW.out HOK.out.1 HOK.out.2 (by rw [show hs.length = i from HHL.out]; exact hown4) hg4
            obtain ⟨ba2, bc2, hbv2, _⟩ := Bk.book_form hown4
            subst hbv2
            have HHL2 : Hid ((hs ++ [hb]).length = i + 1) := by show _ = _; rw [List.length_append, HHL.out]; rfl
            clear hown4 hg4 hm4 hal hsz4 HCE HM3 HC3 HROW HOK hj hj0 hj1 hj2 j0 HA10 HL10
            go_wp2_with fail
            exact ⟨⟨i + 1, bc2, ba2, v', rv', (bs ++ xs), t, hs ++ [hb], by omega, rfl, by go_num, HHL2.out, HA19.out, HDI.out.2.2, HDI.out.1, (by rw [List.length_append]; have := HBL.out; have := HDI.out.2.1; omega)⟩, by simp [intOf]; omega⟩
          · have q0 : (er == 0) = false := by rw [beq_eq_false_iff_ne]; exact he
            have q0' : (er != 0) = true := by simp [he]
            have q0'' : decide (er = 0) = false := decide_eq_false he
            have HXE : Hid (xs = []) := HER.out he
            have HA10 : Hid (Ap Win w0 w9 a n v' bs r rv' bs g15 s (.slice ba i bc) hs) := by
              have h9 := HA9.out
              rw [HXE.out, List.append_nil] at h9
              exact h9
            clear HA9 HT9 he
            go_upto_region 20 with fail
            have hhold := Bk.hold_any w0.heap.size (.slice oa m oc) (nums xs) m i w9 (by omega) HL9.out.own HA10.out.chg.size (by omega)
            have HHOLD : Hid _ := hhold
            clear hhold
            go_wp2_with fail
            refine Calls.mono HHOLD.out ?_
            rintro z w18 ⟨hb, vab, vcb, rfl, hva, hok, hhn, hrow, hc3, hm3⟩
            have HCE : Hid (hb.cells = [.slice vab hb.ys.length vcb, .int .i64 hb.n, .int .u8 hb.mark, .string hb.want, .bool hb.kept]) := by show Bk.Hd.cells _ = _; unfold Bk.Hd.cells; rw [hva]
            have hhn1 : hb.n ≤ 1099511627776 := by rw [hhn]; omega
            have hbk := bk_keep HA10.out.book hc3 (fun g e f => by
              obtain ⟨cur2, hcur2⟩ := owns_blk HL9.out.own f
              exact book_off HA10.out.book hcur2 (by decide) g e rfl) (fun j x hj g e f => HL9.out.rows j x hj g e f)
            have hal := fun o => hbk.book.alloc o
            rw [show hs.length = i from HHL.out] at hal
            have hsz4 : w0.heap.size ≤ w18.heap.size := Nat.le_trans HA10.out.chg.size hc3.size
            have HM3 : Hid (Moved w9 (.slice oa m oc) hb.v) := hm3
            have HC3 : Hid (Chg (fun b => (Value.slice oa m oc).ownBlock = some b) w9 w18) := hc3
            have HROW : Hid (Bk.Row w0.heap.size w18 hb) := hrow
            have HOK : Hid (hb.ok ∧ hb.n ≤ 1099511627776) := ⟨hok, hhn1⟩
            clear hva hok hhn hrow hc3 hm3 hhn1 HHOLD hbk
            obtain ⟨j0, hj, hj0, hj1, hj2⟩ := info_parts Bk.infoHeld
            go_wp2_with (at_builtin; refine wpList_append_moved rfl _ _ 53 rfl w0.heap.size 61 j0 (.agg #[.slice none 0 0, .int .i64 0, .int .u8 0, .string ⟨#[]⟩, .bool false]) 5 64 Tryd.underlying53 hj hj0 hj1 hj2 rfl (by decide) _ i (Bk.hcells hs) rfl (some ⟨w18.heap.size, 0, none⟩) 1 1 rfl [.slice vab hb.ys.length vcb, .int .i64 hb.n, .int .u8 hb.mark, .string hb.want, .bool hb.kept] (hal _) (Bk.from_held _ w18.heap.size rfl _ _ _ _ _) (Bk.held_one _ _ _ _ _ _ _ _ rfl) (by unfold maxLen; omega) (by omega) (Nat.le_trans hsz4 (by rw [World.size_alloc]; omega)) ?_)
            intro lvb w19 hown4 hg4 hm4
            rw [← HCE.out] at hown4
            have HA19 : Hid (Ap Win w0 w19 a n v' bs r rv' bs g15 s lvb (hs ++ [hb])) := HA10.out.hold S HL9.out HC3.out HM3.out HROW.out HOK.out.1 HOK.out.2 (by rw [show hs.length = i from HHL.out]; exact hown4) hg4
            obtain ⟨ba2, bc2, hbv2, _⟩ := Bk.book_form hown4
            subst hbv2
            have HHL2 : Hid ((hs ++ [hb]).length = i + 1) := by show _ = _; rw [List.length_append, HHL.out]; rfl
            clear hown4 hg4 hm4 hal hsz4 HCE HM3 HC3 HROW HOK hj hj0 hj1 hj2 j0 HA10 HL9
            go_wp2_with fail
            exact ⟨⟨i + 1, bc2, ba2, v', rv', bs, s, hs ++ [hb], by omega, rfl, by go_num, HHL2.out, HA19.out, HSI.out, HDB.out, (by have := HBL.out; omega)⟩, by simp [intOf]; omega⟩
      · have hd1 : decide ((i : Int) < (len : Int)) = false := by simp; omega
        have hd1' : decide (i < len) = false := decide_eq_false hlt
        generalize hWo : wr = Wo at *
        clear hWo
        obtain ⟨bL, hbL⟩ : ∃ bL, bs.length = bL := ⟨_, rfl⟩
        obtain ⟨fL, hfL⟩ : ∃ fL, fullN n bs = fL := ⟨_, rfl⟩
        have hbl9 : bL ≤ 1048576 + 273 * 1048576 := by rw [← hbL]; have := HBL.out; omega
        have hfl9 : fL ≤ bL := by rw [← hfL, ← hbL]; unfold fullN; omega
        have HFL : Hid (fullN n bs = fL ∧ bs.length = bL) := ⟨hfL, hbL⟩
        obtain ⟨ra, rc, hrv⟩ := form1 HA.out.rw.own
        rw [hbL] at hrv
        subst hrv
        have HPOS : Hid (∀ w_, Chg (fun _ => False) Wo w_ → Calls Tryd.prog 25 #[.pointer (some ⟨a, 0, none⟩)] w_ fun e w' => e = .returned (.int .i64 (bL : Int)) ∧ Chg (fun _ => False) w_ w') := fun w_ hc => by
          have h9 := posS S (S.new HA.out.win hc)
          rw [HFL.out.2] at h9
          exact h9
        have HFUL : Hid (∀ w_, Chg (fun _ => False) Wo w_ → Calls Tryd.prog 26 #[.pointer (some ⟨a, 0, none⟩)] w_ fun e w' => e = .returned (.int .i64 (fL : Int)) ∧ Chg (fun _ => False) w_ w') := fun w_ hc => by
          have h9 := fullS S (S.new HA.out.win hc)
          rw [HFL.out.1] at h9
          exact h9
        have HRFU : Hid (∀ w_, Chg (fun _ => False) Wo w_ → Calls Tryd.prog 27 #[.pointer (some ⟨r, 0, none⟩)] w_ fun e w' => e = .returned (.int .i64 (fL : Int)) ∧ Chg (fun _ => False) w_ w') := fun w_ hc => by
          have h9 := rfull_any w0.heap.size r _ n bs w_ (HA.out.rw.new hc) hn (by have := HFL.out.2; omega)
          rw [HFL.out.1] at h9
          exact h9
        have HRC : Hid (∀ w_, Chg (fun _ => False) Wo w_ → w_.cell? ⟨r, 1, none⟩ = some (.slice ra bL rc)) := fun w_ hc => cell1 (HA.out.rw.new hc).blk
        clear hbL hfL hlt
        go_wp2_with fail
        refine wp_region_free (mk := fun u => #[_, _, _, _, _, _, _, _, _, _, _, _, _, _, _, _, _, _, _, _, _, _, _, _, _, _, _, _, _, _, _, _, _, _, _, _, _, _, _, _, _, _, _, _, _, _, _, _, _, _, _, _, _, _, _, _, _, _, _, _, _, _, _, _, _, _, _, _, _, _, _, _, _, _, _, _, _, _, _, _, _, _, _, _, _, _, _, _, _, _, _, _, _, _, _, _, _, _, _, _, _, _, _, _, _, _, _, _, _, _, _, _, _, u 113, u 114, u 115, u 116, u 117, u 118, u 119, u 120, u 121, u 122, u 123, u 124, u 125, u 126, u 127, _, _, _, _, _, _, _, _, _, _, _, _, _, _, _, _, _, _, _, _, _, _, _, _, _, _, _, _, _, _, _, _]) (F := fun slot vv ww => (look [(113, .val (.pointer (some ⟨a, 0, none⟩))), (114, .val (.int .i64 (bL : Int))), (115, .val (.pointer (some ⟨r, 0, none⟩))), (116, .val (.pointer (some ⟨r, 0, none⟩))), (117, .val (.pointer (some ⟨r, 1, none⟩))), (118, .val (.slice ra bL rc)), (119, .val (.int .i64 (bL : Int))), (120, .val (.bool false)), (121, .val (.bool false)), (122, .val (.pointer (some ⟨a, 0, none⟩))), (123, .val (.int .i64 (fL : Int))), (124, .val (.pointer (some ⟨r, 0, none⟩))), (125, .val (.int .i64 (fL : Int))), (126, .val (.bool false)), (127, .val (.bool false))] slot).holds vv ww) (fun _ => undef) rfl (by kernel_rfl) (by kernel_rfl) ?_ (fun _ v w w' hc h => Fact.stays _ v w w' hc h) ?_ ?_
        · repeat (refine ⟨⟨_, rfl, fun _ _ => rfl⟩, ?_⟩)
          exact trivial
        · refine ⟨?_, ?_, ?_, ?_, ?_, ?_, ?_, ?_, ?_, ?_, ?_, ?_, ?_, ?_, ?_, trivial⟩
          · intro u w hc hd K hK -- 113
            clear hd
            go_simp
            exact hK.out (.pointer (some ⟨a, 0, none⟩)) w (Chg.refl _ _) rfl
          · intro u w hc hd K hK -- 114
            have h113 : (Fact.val (.pointer (some ⟨a, 0, none⟩))).holds (u 113) w := hd.get 0 (by kernel_rfl)
            simp only [Fact.holds] at h113
            clear hd
            simp only [h113] at hK
            go_simp
            refine (HPOS.out w hc).mono ?_
            rintro z wz ⟨rfl, cz⟩
            exact hK.out _ wz cz rfl
          · intro u w hc hd K hK -- 115
            clear hd
            go_simp
            exact hK.out (.pointer (some ⟨r, 0, none⟩)) w (Chg.refl _ _) rfl
          · intro u w hc hd K hK -- 116
            have h115 : (Fact.val (.pointer (some ⟨r, 0, none⟩))).holds (u 115) w := hd.get 2 (by kernel_rfl)
            simp only [Fact.holds] at h115
            clear hd
            simp only [h115] at hK
            go_simp
            exact hK.out (.pointer (some ⟨r, 0, none⟩)) w (Chg.refl _ _) rfl
          · intro u w hc hd K hK -- 117
            have h116 : (Fact.val (.pointer (some ⟨r, 0, none⟩))).holds (u 116) w := hd.get 3 (by kernel_rfl)
            simp only [Fact.holds] at h116
            clear hd
            simp only [h116] at hK
            go_simp
            exact hK.out (.pointer (some ⟨r, 1, none⟩)) w (Chg.refl _ _) rfl
          · intro u w hc hd K hK -- 118
            have h117 : (Fact.val (.pointer (some ⟨r, 1, none⟩))).holds (u 117) w := hd.get 4 (by kernel_rfl)
            simp only [Fact.holds] at h117
            clear hd
            simp only [h117] at hK
            have k1 := HRC.out w hc
            clear hc
            go_simp
            exact hK.out (.slice ra bL rc) w (Chg.refl _ _) rfl
          · intro u w hc hd K hK -- 119
            have h118 : (Fact.val (.slice ra bL rc)).holds (u 118) w := hd.get 5 (by kernel_rfl)
            simp only [Fact.holds] at h118
            clear hd
            simp only [h118] at hK
            go_simp
            exact hK.out (.int .i64 (bL : Int)) w (Chg.refl _ _) rfl
          · intro u w hc hd K hK -- 120
            have h114 : (Fact.val (.int .i64 (bL : Int))).holds (u 114) w := hd.get 1 (by kernel_rfl)
            simp only [Fact.holds] at h114
            have h119 : (Fact.val (.int .i64 (bL : Int))).holds (u 119) w := hd.get 6 (by kernel_rfl)
            simp only [Fact.holds] at h119
            clear hd
            simp only [h114, h119] at hK
            go_simp
            exact hK.out (.bool false) w (Chg.refl _ _) rfl
          · intro u w hc hd K hK -- 121
            have h120 : (Fact.val (.bool false)).holds (u 120) w := hd.get 7 (by kernel_rfl)
            simp only [Fact.holds] at h120
            clear hd
            simp only [h120] at hK
            go_simp
            exact hK.out (.bool false) w (Chg.refl _ _) rfl
          · intro u w hc hd K hK -- 122
            have h121 : (Fact.val (.bool false)).holds (u 121) w := hd.get 8 (by kernel_rfl)
            simp only [Fact.holds] at h121
            clear hd
            simp only [h121] at hK
            go_simp
            exact hK.out (.pointer (some ⟨a, 0, none⟩)) w (Chg.refl _ _) rfl
          · intro u w hc hd K hK -- 123
            have h122 : (Fact.val (.pointer (some ⟨a, 0, none⟩))).holds (u 122) w := hd.get 9 (by kernel_rfl)
            simp only [Fact.holds] at h122
            have h121 : (Fact.val (.bool false)).holds (u 121) w := hd.get 8 (by kernel_rfl)
            simp only [Fact.holds] at h121
            clear hd
            simp only [h121, h122] at hK
            go_simp
            refine (HFUL.out w hc).mono ?_
            rintro z wz ⟨rfl, cz⟩
            exact hK.out _ wz cz rfl
          · intro u w hc hd K hK -- 124
            have h121 : (Fact.val (.bool false)).holds (u 121) w := hd.get 8 (by kernel_rfl)
            simp only [Fact.holds] at h121
            clear hd
            simp only [h121] at hK
            go_simp
            exact hK.out (.pointer (some ⟨r, 0, none⟩)) w (Chg.refl _ _) rfl
          · intro u w hc hd K hK -- 125
            have h124 : (Fact.val (.pointer (some ⟨r, 0, none⟩))).holds (u 124) w := hd.get 11 (by kernel_rfl)
            simp only [Fact.holds] at h124
            have h121 : (Fact.val (.bool false)).holds (u 121) w := hd.get 8 (by kernel_rfl)
            simp only [Fact.holds] at h121
            clear hd
            simp only [h121, h124] at hK
            go_simp
            refine (HRFU.out w hc).mono ?_
            rintro z wz ⟨rfl, cz⟩
            exact hK.out _ wz cz rfl
          · intro u w hc hd K hK -- 126
            have h123 : (Fact.val (.int .i64 (fL : Int))).holds (u 123) w := hd.get 10 (by kernel_rfl)
            simp only [Fact.holds] at h123
            have h125 : (Fact.val (.int .i64 (fL : Int))).holds (u 125) w := hd.get 12 (by kernel_rfl)
            simp only [Fact.holds] at h125
            have h121 : (Fact.val (.bool false)).holds (u 121) w := hd.get 8 (by kernel_rfl)
            simp only [Fact.holds] at h121
            clear hd
            simp only [h121, h123, h125] at hK
            go_simp
            exact hK.out (.bool false) w (Chg.refl _ _) rfl
          · intro u w hc hd K hK -- 127
            have h121 : (Fact.val (.bool false)).holds (u 121) w := hd.get 8 (by kernel_rfl)
            simp only [Fact.holds] at h121
            have h126 : (Fact.val (.bool false)).holds (u 126) w := hd.get 13 (by kernel_rfl)
            simp only [Fact.holds] at h126
            clear hd
            simp only [h121, h126] at hK
            go_simp
            exact hK.out (.bool false) w (Chg.refl _ _) rfl
        · intro u w21 hc hA
          have e127 : u 127 = .bool false := hA.at 127 (by kernel_rfl)
          have HC21 : Hid (Chg (fun _ => False) Wo w21) := hc
          clear hA hc HPOS HFUL HRC
          simp only [e127]
          go_wp2_with fail
          go_loopw [25] (fun b1 wx => ∃ (d : Nat), 1 ≤ d ∧ d ≤ fL + 1 ∧ b1 = .int .i64 (d : Int) ∧ Hid (Chg (fun _ => False) Wo wx)) (fun b1 _ => fL + 1 - (intOf b1).toNat)
          case atStart => exact ⟨1, by omega, by omega, rfl, HC21.out⟩
          case round =>
            clear HC21
            obtain ⟨d, hd1, hd2, rfl, HCW⟩ := hrel
            go_wp2_with fail
            refine (HRFU.out _ HCW.out).mono ?_
            rintro z w22 ⟨rfl, c22⟩
            have HC22 : Hid (Chg (fun _ => False) Wo w22) := chg_then HCW.out c22
            clear c22 HCW
            by_cases hgo : d ≤ fL ∧ d ≤ 700
            · have g1 : decide ((d : Int) ≤ (fL : Int)) = true := by simp; omega
              have g1' : decide (d ≤ fL) = true := decide_eq_true hgo.1
              have g2 : decide ((d : Int) ≤ 700) = true := by simp; omega
              have g2' : decide (d ≤ 700) = true := decide_eq_true hgo.2
              have HIN : Hid (Inw n bs (d : Int)) := by show _ ∧ _; rw [HFL.out.1]; omega
              have hg9 := hgo.1
              have hg8 := hgo.2
              obtain ⟨xb, hxb⟩ : ∃ xb, backB bs d = xb := ⟨_, rfl⟩
              have HLA : Hid (∀ w_, Chg (fun _ => False) Wo w_ → Calls Tryd.prog 28 #[.pointer (some ⟨a, 0, none⟩), .int .i64 (d : Int)] w_ fun e w' => e = .returned (.tuple #[.int .u8 (xb : Int), .int .i64 0]) ∧ Chg (fun _ => False) w_ w') := fun w_ hc => by
                have h9 := S.last w0.heap.size a v n bs (d : Int) w_ (S.new HA.out.win hc) (by have := HFL.out.2; omega) ⟨by omega, by omega⟩
                refine h9.mono fun e w' ⟨h1, h2⟩ => ⟨?_, h2⟩
                rcases h1 with ⟨h1, _⟩ | ⟨_, h1⟩
                · exact absurd HIN.out h1
                · rw [Int.toNat_natCast, hxb] at h1; exact h1
              have HLR : Hid (∀ w_, Chg (fun _ => False) Wo w_ → Calls Tryd.prog 29 #[.pointer (some ⟨r, 0, none⟩), .int .i64 (d : Int)] w_ fun e w' => e = .returned (.tuple #[.int .u8 (xb : Int), .int .i64 0]) ∧ Chg (fun _ => False) w_ w') := fun w_ hc => by
                have h9 := rlast_any w0.heap.size r _ n bs (d : Int) w_ (HA.out.rw.new hc) hn (by have := HFL.out.2; omega)
                refine h9.mono fun e w' ⟨h1, h2⟩ => ⟨?_, h2⟩
                rcases h1 with ⟨h1, _⟩ | ⟨_, h1⟩
                · exact absurd HIN.out h1
                · rw [Int.toNat_natCast, hxb] at h1; exact h1
              clear hgo
              go_wp2_with fail
              refine (HLA.out _ HC22.out).mono ?_
              rintro z w23 ⟨rfl, c23⟩
              have HC23 : Hid (Chg (fun _ => False) Wo w23) := chg_then HC22.out c23
              clear c23 HC22 hxb
              go_wp2_with fail
              refine (HLR.out _ HC23.out).mono ?_
              rintro z w24 ⟨rfl, c24⟩
              have HC24 : Hid (Chg (fun _ => False) Wo w24) := chg_then HC23.out c24
              clear c24 HC23
              go_wp2_with fail
              exact ⟨⟨d + 1, by omega, by omega, by go_num, HC24.out⟩, by simp [intOf]; omega⟩
            · have HAZ : Hid (Ap Win w0 w22 a n v bs r (.slice ra bL rc) bs g15 s (.slice ba i bc) hs) := HA.out.new S HC22.out
              have HHE : Hid (Calls Tryd.prog 30 #[.slice ba i bc] w22 fun e w' => e = .returned (.bool true) ∧ Chg (fun b => w0.heap.size ≤ b) w22 w') := Bk.held_walk w0.heap.size (.slice ba i bc) hs w22 HAZ.out.chg.size HAZ.out.book.book HAZ.out.book.rows HAZ.out.book.apart HAZ.out.book.ok (by have := HHL.out; omega) HAZ.out.book.small
              have HCE : Hid (Chg (fun _ => False) w0 w22) := HAZ.out.chg
              by_cases g0 : d ≤ fL
              · have g1 : decide ((d : Int) ≤ (fL : Int)) = true := by simp; omega
                have g1' : decide (d ≤ fL) = true := decide_eq_true g0
                have g2 : decide ((d : Int) ≤ 700) = false := by simp; omega
                have g2' : decide (d ≤ 700) = false := decide_eq_false (by omega)
                clear HAZ
                go_wp2_with fail
                refine Calls.mono HHE.out ?_
                rintro z w25 ⟨rfl, c25⟩
                have HCF : Hid (Chg (fun _ => False) w0 w25) := HCE.out.trans c25 (fun z e => .inr e)
                clear c25
                go_wp2
                go_ret
                exact ⟨rfl, HCF.out⟩
              · have g1 : decide ((d : Int) ≤ (fL : Int)) = false := by simp; omega
                have g1' : decide (d ≤ fL) = false := decide_eq_false g0
                clear HAZ
                go_wp2_with fail
                refine Calls.mono HHE.out ?_
                rintro z w25 ⟨rfl, c25⟩
                have HCF : Hid (Chg (fun _ => False) w0 w25) := HCE.out.trans c25 (fun z e => .inr e)
                clear c25
                go_wp2
                go_ret
                exact ⟨rfl, HCF.out⟩
end Go.Proofs.YtlnocjicmofjfaaDoor
