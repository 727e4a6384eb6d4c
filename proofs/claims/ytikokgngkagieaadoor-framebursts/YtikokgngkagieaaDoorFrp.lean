/- Boxes of arrays, made and filled in a region that draws its order; the landed Header; of no statement by themselves. -/
import Derived.Test.YtikokgngkagieaaDoorFrn
import Derived.Test.YtikokgngkagieaaDoorRb
import Derived.Test.YtikokgngkagieaaDoorLay
namespace Go.Proofs.YtikokgngkagieaaDoor
open Go.RowKit
set_option linter.unusedVariables false
set_option linter.unusedSimpArgs false
attribute [local go_sem] Oper.semAt_some
/-- A box that was made behind W. -/
def Bx (W w : World) (v : Value) (t : TypeId) (cs : Array Value) : Prop := ∃ g, v = .pointer (some ⟨g, 0, none⟩) ∧ W.heap.size ≤ g ∧ w.heap[g]? = some (.cells cs t (0, 0))
theorem Bx.new {W w w' : World} {v : Value} {t : TypeId} {cs : Array Value} (h : Bx W w v t cs) (hc : Chg (fun _ => False) w w') : Bx W w' v t cs := by
  obtain ⟨g, e, hg, hb⟩ := h
  exact ⟨g, e, hg, blk_keep hb hc (fun f => f)⟩
theorem Bx.mk {W w : World} {t : TypeId} {cs : Array Value} (hc : Chg (fun _ => False) W w) : Bx W (w.alloc (.cells cs t)) (.pointer (some ⟨w.heap.size, 0, none⟩)) t cs := ⟨_, rfl, hc.size, heap_alloc_last _ _⟩
theorem Bx.ne {W w : World} {v : Value} {t : TypeId} {cs : Array Value} (h : Bx W w v t cs) : v ≠ .pointer (some ⟨w.heap.size, 0, none⟩) := by
  obtain ⟨g, rfl, hg, hb⟩ := h
  intro e
  simp only [Value.pointer.injEq, Option.some.injEq, Addr.mk.injEq] at e
  have := lt_of_blk hb
  omega
theorem Bx.other {W w : World} {v : Value} {t : TypeId} {cs cs' : Array Value} {g : Nat} (h : Bx W w v t cs) (hne : v ≠ .pointer (some ⟨g, 0, none⟩)) : Bx W (w.setRow g cs') v t cs := by
  obtain ⟨k, rfl, hg, hb⟩ := h
  refine ⟨k, rfl, hg, ?_⟩
  rw [setRow_other _ _ _ _ (fun e => hne (by rw [e]))]
  exact hb
theorem Bx.put {W w : World} {v : Value} {t : TypeId} {cs cs' : Array Value} {g : Nat} (h : Bx W w v t cs) (e : v = .pointer (some ⟨g, 0, none⟩)) : Bx W (w.setRow g cs') v t cs' := by
  obtain ⟨k, rfl, hg, hb⟩ := h
  simp only [Value.pointer.injEq, Option.some.injEq, Addr.mk.injEq, and_true] at e
  subst e
  exact ⟨k, rfl, hg, setRow_heap _ _ _ _ _ _ hb⟩
/-- A list of lists and up to three boxes: which of them are made, and what they hold. -/
structure BJ (W : World) (vs : Array Value) (n : Nat) (t1 t2 t3 : TypeId) (Lb L1 L2 L3 S1 S2 S3 : Bool) (c1 c2 c3 : Array Value) (ub u1 u2 u3 : Value) (w : World) : Prop where
  ch : Chg (fun _ => False) W w
  hb : Lb = true → ∃ g, ub = .slice (some ⟨g, 0, none⟩) n n ∧ W.heap.size ≤ g ∧ w.heap[g]? = some (.cells vs 22 (0, 0))
  h1 : L1 = true → Bx W w u1 t1 c1
  h2 : L2 = true → Bx W w u2 t2 c2
  h3 : L3 = true → Bx W w u3 t3 c3
  n12 : L1 = true → L2 = true → u1 ≠ u2
  n13 : L1 = true → L3 = true → u1 ≠ u3
  n23 : L2 = true → L3 = true → u2 ≠ u3
  s1 : S1 = true → L1 = true
  s2 : S2 = true → L2 = true
  s3 : S3 = true → L3 = true
theorem BJ.start {W : World} {vs : Array Value} {n : Nat} {t1 t2 t3 : TypeId} {c1 c2 c3 : Array Value} {ub u1 u2 u3 : Value} : BJ W vs n t1 t2 t3 false false false false false false false c1 c2 c3 ub u1 u2 u3 W.drew :=
  ⟨(Chg.refl _ W).drew, (fun h => nomatch h), (fun h => nomatch h), (fun h => nomatch h), (fun h => nomatch h), (fun h => nomatch h), (fun h => nomatch h), (fun h => nomatch h), (fun h => nomatch h), (fun h => nomatch h), (fun h => nomatch h)⟩
section
variable {W w w' : World} {vs : Array Value} {n : Nat} {t1 t2 t3 : TypeId} {Lb L1 L2 L3 S1 S2 S3 : Bool} {c1 c2 c3 : Array Value} {ub u1 u2 u3 : Value}
theorem BJ.go (h : BJ W vs n t1 t2 t3 Lb L1 L2 L3 S1 S2 S3 c1 c2 c3 ub u1 u2 u3 w) (hc : Chg (fun _ => False) w w') : BJ W vs n t1 t2 t3 Lb L1 L2 L3 S1 S2 S3 c1 c2 c3 ub u1 u2 u3 w' :=
  ⟨chg_then h.ch hc, fun e => by obtain ⟨g, e1, e2, e3⟩ := h.hb e; exact ⟨g, e1, e2, blk_keep e3 hc (fun f => f)⟩, fun e => (h.h1 e).new hc, fun e => (h.h2 e).new hc, fun e => (h.h3 e).new hc, h.n12, h.n13, h.n23, h.s1, h.s2, h.s3⟩
theorem BJ.list (h : BJ W vs n t1 t2 t3 Lb L1 L2 L3 S1 S2 S3 c1 c2 c3 ub u1 u2 u3 w) : BJ W vs n t1 t2 t3 true L1 L2 L3 S1 S2 S3 c1 c2 c3 (.slice (some ⟨w.heap.size, 0, none⟩) n n) u1 u2 u3 (w.alloc (.cells vs 22)) :=
  have k := h.go (chg_one w (.cells vs 22))
  ⟨k.ch, fun _ => ⟨_, rfl, h.ch.size, heap_alloc_last _ _⟩, k.h1, k.h2, k.h3, k.n12, k.n13, k.n23, k.s1, k.s2, k.s3⟩
theorem BJ.mk1 (h : BJ W vs n t1 t2 t3 Lb L1 L2 L3 S1 S2 S3 c1 c2 c3 ub u1 u2 u3 w) {z : Array Value} (ez : c1 = z) : BJ W vs n t1 t2 t3 Lb true L2 L3 S1 S2 S3 c1 c2 c3 ub (.pointer (some ⟨w.heap.size, 0, none⟩)) u2 u3 (w.alloc (.cells z t1)) := by
  subst ez
  have k := h.go (chg_one w (.cells c1 t1))
  exact ⟨k.ch, k.hb, fun _ => Bx.mk h.ch, k.h2, k.h3, fun _ e f => (h.h2 e).ne f.symm, fun _ e f => (h.h3 e).ne f.symm, k.n23, fun _ => rfl, k.s2, k.s3⟩
theorem BJ.mk2 (h : BJ W vs n t1 t2 t3 Lb L1 L2 L3 S1 S2 S3 c1 c2 c3 ub u1 u2 u3 w) {z : Array Value} (ez : c2 = z) : BJ W vs n t1 t2 t3 Lb L1 true L3 S1 S2 S3 c1 c2 c3 ub u1 (.pointer (some ⟨w.heap.size, 0, none⟩)) u3 (w.alloc (.cells z t2)) := by
  subst ez
  have k := h.go (chg_one w (.cells c2 t2))
  exact ⟨k.ch, k.hb, k.h1, fun _ => Bx.mk h.ch, k.h3, fun e _ f => (h.h1 e).ne f, k.n13, fun _ e f => (h.h3 e).ne f.symm, k.s1, fun _ => rfl, k.s3⟩
theorem BJ.mk3 (h : BJ W vs n t1 t2 t3 Lb L1 L2 L3 S1 S2 S3 c1 c2 c3 ub u1 u2 u3 w) {z : Array Value} (ez : c3 = z) : BJ W vs n t1 t2 t3 Lb L1 L2 true S1 S2 S3 c1 c2 c3 ub u1 u2 (.pointer (some ⟨w.heap.size, 0, none⟩)) (w.alloc (.cells z t3)) := by
  subst ez
  have k := h.go (chg_one w (.cells c3 t3))
  exact ⟨k.ch, k.hb, k.h1, k.h2, fun _ => Bx.mk h.ch, k.n12, fun e _ f => (h.h1 e).ne f, fun e _ f => (h.h2 e).ne f, k.s1, k.s2, fun _ => rfl⟩
theorem BJ.list_ne (h : BJ W vs n t1 t2 t3 Lb L1 L2 L3 S1 S2 S3 c1 c2 c3 ub u1 u2 u3 w) {g : Nat} {t : TypeId} {cs cs' : Array Value} (hg : w.heap[g]? = some (.cells cs t (0, 0))) (ht : t ≠ 22) : Lb = true → ∃ k, ub = .slice (some ⟨k, 0, none⟩) n n ∧ W.heap.size ≤ k ∧ (w.setRow g cs').heap[k]? = some (.cells vs 22 (0, 0)) := fun e => by
  obtain ⟨k, e1, e2, e3⟩ := h.hb e
  refine ⟨k, e1, e2, ?_⟩
  rw [setRow_other _ _ _ _ (fun f => ?_)]
  · exact e3
  · subst f
    rw [hg] at e3
    simp only [Option.some.injEq, Obj.cells.injEq] at e3
    exact ht e3.2.1
theorem BJ.st1 (h : BJ W vs n t1 t2 t3 Lb L1 L2 L3 S1 S2 S3 c1 c2 c3 ub u1 u2 u3 w) (hl : L1 = true) {g : Nat} (e : u1 = .pointer (some ⟨g, 0, none⟩)) (ht : t1 ≠ 22) (c : Array Value) : BJ W vs n t1 t2 t3 Lb L1 L2 L3 true S2 S3 c c2 c3 ub u1 u2 u3 (w.setRow g c) := by
  obtain ⟨k, e1, e2, e3⟩ := h.h1 hl
  obtain rfl : k = g := by rw [e1] at e; simpa using e
  exact ⟨chg_setRowF h.ch e2, h.list_ne e3 ht, fun _ => (h.h1 hl).put e, fun f => (h.h2 f).other (fun z => h.n12 hl f (e.trans z.symm)), fun f => (h.h3 f).other (fun z => h.n13 hl f (e.trans z.symm)), h.n12, h.n13, h.n23, fun _ => hl, h.s2, h.s3⟩
theorem BJ.st2 (h : BJ W vs n t1 t2 t3 Lb L1 L2 L3 S1 S2 S3 c1 c2 c3 ub u1 u2 u3 w) (hl : L2 = true) {g : Nat} (e : u2 = .pointer (some ⟨g, 0, none⟩)) (ht : t2 ≠ 22) (c : Array Value) : BJ W vs n t1 t2 t3 Lb L1 L2 L3 S1 true S3 c1 c c3 ub u1 u2 u3 (w.setRow g c) := by
  obtain ⟨k, e1, e2, e3⟩ := h.h2 hl
  obtain rfl : k = g := by rw [e1] at e; simpa using e
  exact ⟨chg_setRowF h.ch e2, h.list_ne e3 ht, fun f => (h.h1 f).other (fun z => h.n12 f hl (z.trans e.symm)), fun _ => (h.h2 hl).put e, fun f => (h.h3 f).other (fun z => h.n23 hl f (e.trans z.symm)), h.n12, h.n13, h.n23, h.s1, fun _ => hl, h.s3⟩
theorem BJ.st3 (h : BJ W vs n t1 t2 t3 Lb L1 L2 L3 S1 S2 S3 c1 c2 c3 ub u1 u2 u3 w) (hl : L3 = true) {g : Nat} (e : u3 = .pointer (some ⟨g, 0, none⟩)) (ht : t3 ≠ 22) (c : Array Value) : BJ W vs n t1 t2 t3 Lb L1 L2 L3 S1 S2 true c1 c2 c ub u1 u2 u3 (w.setRow g c) := by
  obtain ⟨k, e1, e2, e3⟩ := h.h3 hl
  obtain rfl : k = g := by rw [e1] at e; simpa using e
  exact ⟨chg_setRowF h.ch e2, h.list_ne e3 ht, fun f => (h.h1 f).other (fun z => h.n13 f hl (z.trans e.symm)), fun f => (h.h2 f).other (fun z => h.n23 f hl (z.trans e.symm)), fun _ => (h.h3 hl).put e, h.n12, h.n13, h.n23, h.s1, h.s2, fun _ => hl⟩
end
theorem off_of {a b : Bool} (h : a = true → b = true) (hb : b = false) : a = false := by
  cases a
  · rfl
  · rw [h rfl] at hb
    cases hb
/-- An array's bytes as a list in memory. -/
theorem row8_ab {w : World} {g : Nat} {bs : List Nat} {t : TypeId} (h : w.heap[g]? = some (.cells (abA bs) t (0, 0))) (m : Nat) (hm : bs.length = m) (c : Nat) : Row8 w (some ⟨g, 0, none⟩) m c (nums bs) := by
  refine ⟨by rw [nums_len]; exact hm, .inr ⟨_, rfl, fun j u hu => ?_⟩⟩
  have hadd : (⟨g, 0, none⟩ : Addr).add j = ⟨g, j, none⟩ := by unfold Addr.add; split <;> simp_all
  rw [hadd, cell_of_row w g j _ t (0, 0) h]
  simpa [abA] using hu
theorem pcs_one {w : World} {g F n c : Nat} {l : List Nat} {t : TypeId} (h : w.heap[g]? = some (.cells #[.slice (some ⟨F, 0, none⟩) n c] t (0, 0))) (hr : Row8 w (some ⟨F, 0, none⟩) n c (nums l)) (hd : Rc.Dig l) (hn : n ≤ 140737488355328) : Cq.Pieces w ⟨g, 0, none⟩ [l] := by
  intro k hk
  obtain rfl : k = 0 := by simpa using hk
  refine ⟨.slice (some ⟨F, 0, none⟩) n c, ?_, _, _, _, rfl, hr, hd, hn⟩
  rw [show (⟨g, 0, none⟩ : Addr).add 0 = ⟨g, 0, none⟩ from rfl, cell_of_row w g 0 _ t (0, 0) h]
  rfl
theorem pcs_two {w : World} {g F E n m c d : Nat} {l r : List Nat} {t : TypeId} (h : w.heap[g]? = some (.cells #[.slice (some ⟨F, 0, none⟩) n c, .slice (some ⟨E, 0, none⟩) m d] t (0, 0))) (hr : Row8 w (some ⟨F, 0, none⟩) n c (nums l)) (hs : Row8 w (some ⟨E, 0, none⟩) m d (nums r)) (hd : Rc.Dig l) (he : Rc.Dig r) (hn : n ≤ 140737488355328) (hm : m ≤ 140737488355328) : Cq.Pieces w ⟨g, 0, none⟩ [l, r] := by
  intro k hk
  match k, hk with
  | 0, _ =>
    refine ⟨.slice (some ⟨F, 0, none⟩) n c, ?_, _, _, _, rfl, hr, hd, hn⟩
    rw [show (⟨g, 0, none⟩ : Addr).add 0 = ⟨g, 0, none⟩ from rfl, cell_of_row w g 0 _ t (0, 0) h]
    rfl
  | 1, _ =>
    refine ⟨.slice (some ⟨E, 0, none⟩) m d, ?_, _, _, _, rfl, hs, he, hm⟩
    rw [show (⟨g, 0, none⟩ : Addr).add 1 = ⟨g, 1, none⟩ from rfl, cell_of_row w g 1 _ t (0, 0) h]
    rfl
theorem byO_blkF {w : World} {B g : Nat} {bs : List Nat} (h : w.heap[g]? = some (.cells (Wire.cells8 (nums bs)).toArray 5 (0, 0))) (hB : B ≤ g) (hl : bs.length ≤ 1048576) : ByO w B (.slice (some ⟨g, 0, none⟩) bs.length bs.length) bs := by
  have e : (Wire.cells8 (nums bs)).length = bs.length := by simp [Wire.cells8, nums]
  refine ⟨by simp [ins, nums], .inr ⟨g, bs.length, _, rfl, hB, h, Nat.le_refl _, by unfold maxLen; omega, by simp [Wire.cells8, nums], ?_⟩⟩
  rw [List.take_of_length_le (by simp [Wire.cells8, nums])]
  simp [Wire.cells8, ins]
theorem wr_goF {B a : Nat} {v : Value} {bs : List Int} {w0 w w' : World} (hB : w0.heap.size ≤ B) (h : Wire.Wr B w a v bs) (c : Chg (fun _ => False) w0 w) (hc : Chg (Foot a v) w w') : Chg (fun _ => False) w0 w' := c.trans hc (fun z f => .inr (by have := (h.foot z f).1; omega))
theorem box_wr {B a : Nat} {v : Value} {bs : List Int} {w w' : World} (h : Wire.Wr B w a v bs) (hc : Chg (Foot a v) w w') {g : Nat} (hg : g < B) {o : Obj} (hb : w.heap[g]? = some o) : w'.heap[g]? = some o := blk_keep hb hc (fun f => by have := (h.foot g f).1; omega)
/-- The tables that the landed frame reads. -/
def FTab (w : World) : Prop := Cq.Tab w ∧ (∃ ty fr, w.heap[0]? = some (.cells (abA Fr24.F6) ty fr)) ∧ (∃ ty fr, w.heap[1]? = some (.cells (abA Fr24.E2) ty fr))
theorem FTab.keep {w w' : World} (h : FTab w) (hc : Chg (fun _ => False) w w') : FTab w' := by
  obtain ⟨h1, ⟨y, r, h2⟩, z, s, h3⟩ := h
  exact ⟨h1.new hc, ⟨y, r, blk_keep h2 hc (fun f => f)⟩, z, s, blk_keep h3 hc (fun f => f)⟩
set_option maxHeartbeats 8000000 in
set_option maxRecDepth 100000 in
theorem head24f_any (k : Int) (w : World) (hT : FTab w) : Calls Tryd.prog 8 #[.int .i64 k] w fun e w' => ∃ ov, e = .returned (.tuple #[ov, .int .i64 (Fr24.headF k).2]) ∧ ByO w' w.heap.size ov (Fr24.headF k).1 ∧ Chg (fun _ => False) w w' := by
  have HT : Hid (FTab w) := hT
  have HFL : Hid _ := flagsOf_any k w
  by_cases hk : Fr24.kind k = true
  rotate_left
  · have HF : Hid (Fr24.headF k = ([], 6)) := Fr24.headF_6 hk
    rw [Bool.not_eq_true] at hk
    have hfl : flg k = [0, 0] := by unfold flg; rw [if_neg (by rw [hk]; decide)]
    rw [hfl, hk] at HFL
    clear hk hfl hT
    go_enter Tryd.func8, Tryd.ntmps8
    go_wp2_with fail
    refine Calls.mono HFL.out ?_
    rintro z w1 ⟨rfl, c1⟩
    have HC1 : Hid (Chg (fun _ => False) w w1) := c1
    clear c1 HFL
    go_wp2_with (refine wpList_store_row rfl 53 (.tmp 4) (.tmp 12) rfl w1.heap.size (abA [0, 0]) rfl rfl 53 _ (heap_alloc_last _ _) info2x rfl (abA_one _) ?_)
    go_wp2
    go_ret2
    exact ⟨.slice none 0 0, (by rw [HF.out]; rfl), (by rw [HF.out]; exact byO_nil _ _), chg_setRowF (chg_then HC1.out (chg_one _ _)) HC1.out.size⟩
  · have HF : Hid (Fr24.headF k = (Fr24.headB k.toNat, 0)) := Fr24.headF_0 hk
    obtain ⟨kn, rfl, hK10⟩ : ∃ n : Nat, k = (n : Int) ∧ n ≤ 10 := ⟨k.toNat, by have := Fr24.kind_lt hk; omega, by have := Fr24.kind_lt hk; omega⟩
    have hfl : flg (kn : Int) = [0, kn] := by unfold flg; rw [if_pos hk]; rfl
    rw [hfl, hk] at HFL
    have HDG : Hid (Rc.Dig [0, kn]) := by
      show Rc.Dig _
      intro x hx
      simp at hx
      omega
    obtain ⟨CR, hCR⟩ : ∃ l, crc4 [0, kn] = l := ⟨_, rfl⟩
    have HCL : Hid (CR.length = 4) := by rw [← hCR]; exact crc4_len _
    have HHB : Hid (Fr24.headB kn = Fr24.F6 ++ ([0, kn] ++ CR)) := by rw [← hCR]; rfl
    have HSM : Hid (∀ (w1 : World) (g : Nat), Chg (fun _ => False) w w1 → (∀ w', Chg (fun _ => False) w1 w' → Cq.Pieces w' ⟨g, 0, none⟩ [[0, kn]]) → Calls Tryd.prog 23 #[.slice (some ⟨g, 0, none⟩) 1 1] w1 fun e w' => e = .returned (ab CR) ∧ Chg (fun _ => False) w1 w') := fun w1 g hw hp => by
      have h9 := sumOf_any ⟨g, 0, none⟩ 1 1 [[0, kn]] w1 (HT.out.1.new hw) hp rfl (by decide) (by simpa using HDG.out)
      rw [show ([[0, kn]] : List (List Nat)).flatten = [0, kn] by simp, hCR] at h9
      exact h9
    clear hk hfl hT hCR hK10
    rw [Int.toNat_natCast] at HF
    go_enter Tryd.func8, Tryd.ntmps8
    go_wp2_with fail
    refine Calls.mono HFL.out ?_
    rintro z w1 ⟨rfl, c1⟩
    have HC1 : Hid (Chg (fun _ => False) w w1) := c1
    clear c1 HFL
    go_upto_region 4 with (refine wpList_store_row rfl 53 (.tmp 4) (.tmp 12) rfl w1.heap.size (abA [0, kn]) rfl rfl 53 _ (heap_alloc_last _ _) info2x rfl (abA_one _) ?_)
    obtain ⟨W2, hW2⟩ : ∃ W2, (w1.alloc (.cells #[.int .u8 0, .int .u8 0] 53)).setRow w1.heap.size (abA [0, kn]) = W2 := ⟨_, rfl⟩
    have HW2 : Hid (Chg (fun _ => False) w W2 ∧ W2.heap[w1.heap.size]? = some (.cells (abA [0, kn]) 53 (0, 0))) := by
      rw [← hW2]
      exact ⟨chg_setRowF (chg_then HC1.out (chg_one _ _)) HC1.out.size, setRow_heap _ _ _ _ _ _ (heap_alloc_last _ _)⟩
    rw [hW2]
    generalize w1.heap.size = F at *
    clear hW2 HC1
    have HTW : Hid (FTab W2) := HT.out.keep HW2.out.1
    refine wp_region_all (mk := fun u => #[_, _, _, _, _, _, u 6, u 7, _, _, _, _, _, _, _, _, u 16, u 17, u 18, u 19, _, _, _, _, _, _, _, _, _, _, _, _]) (G := lookG [(16, ab Fr24.F6), (17, .slice (some ⟨F, 0, none⟩) 2 2), (19, ab CR)]) (J := fun L u ww => BJ W2 #[.slice (some ⟨F, 0, none⟩) 2 2] 1 56 57 0 (L 2) (L 4) (L 5) false (L 6) (L 7) false (if L 6 = true then abA Fr24.F6 else abA [0, 0, 0, 0, 0, 0]) (if L 7 = true then abA CR else abA [0, 0, 0, 0]) #[] (u 18) (u 6) (u 7) undef ww) [2, 3, 4, 5, 6, 7] ([]) (fun _ => undef) rfl (by kernel_rfl) (by kernel_rfl) (by kernel_rfl) ?_ (fun _ => trivial) ?_ ?_ ?_ ?_
    · repeat (refine ⟨fun _ _ => rfl, ?_⟩)
      exact trivial
    · intro L L2 u u2 ww h hj
      have e18 : u 18 = u2 18 := (h 2 (by decide)).2
      have e6 : u 6 = u2 6 := (h 4 (by decide)).2
      have e7 : u 7 = u2 7 := (h 5 (by decide)).2
      have l2 : L 2 = L2 2 := (h 2 (by decide)).1
      have l4 : L 4 = L2 4 := (h 4 (by decide)).1
      have l5 : L 5 = L2 5 := (h 5 (by decide)).1
      have l6 : L 6 = L2 6 := (h 6 (by decide)).1
      have l7 : L 7 = L2 7 := (h 7 (by decide)).1
      show BJ _ _ _ _ _ _ _ _ _ _ _ _ _ _ _ _ _ _ _ _ _
      rw [← e18, ← e6, ← e7, ← l2, ← l4, ← l5, ← l6, ← l7]
      exact hj
    · exact BJ.start
    · refine ⟨?_, ?_, ?_, ?_, ?_, ?_, ?_, ?_, trivial⟩
      · show StepRS _ _ _ _ _ _ _ _ -- 16
        unfold StepRS
        intro L u w_ hj hd K hK
        clear hd
        obtain ⟨y, r, hb⟩ := HTW.out.2.1
        have hb2 := blk_keep hb hj.ch (fun f => f)
        clear hj hb
        rw [if_pos (by rfl)]
        exact wp_load_row 56 (.global 0) rfl 0 rfl y _ r _ hb2 Tryd.underlying56 rfl info6x (hK.out _ rfl)
      · show StepRS _ _ _ _ _ _ _ _ -- 17
        unfold StepRS
        intro L u w_ hj hd K hK
        clear hd
        clear hj
        go_simp
        exact hK.out _ rfl
      · show StepWS _ _ _ _ _ _ _ _ _ -- 18
        unfold StepWS
        intro L u w_ hj hli hwt hd K hK
        have h17 : u 17 = .slice (some ⟨F, 0, none⟩) 2 2 := hd.get 1 (by kernel_rfl)
        clear hd
        simp only [h17] at hK
        have HJ : Hid _ := hj
        clear hj hwt hli
        go_simp
        exact hK.out _ _ (HJ.out.list) trivial
      · show StepWS _ _ _ _ _ _ _ _ _ -- 19
        unfold StepWS
        intro L u w_ hj hli hwt hd K hK
        clear hd
        have HJ : Hid _ := hj
        obtain ⟨g, e18, -, hb⟩ := hj.hb (hwt { on := 2, ground := .data } (by simp) (by kernel_rfl))
        have hp : ∀ w', Chg (fun _ => False) w_ w' → Cq.Pieces w' ⟨g, 0, none⟩ [[0, kn]] := fun w' hc => pcs_one (blk_keep hb hc (fun f => f)) (row8_ab (blk_keep HW2.out.2 (chg_then hj.ch hc) (fun f => f)) 2 rfl 2) HDG.out (by decide)
        have HC : Hid _ := HSM.out w_ g (chg_then HW2.out.1 hj.ch) hp
        clear hj hwt hli hb hp
        simp only [e18] at hK ⊢
        clear e18
        go_simp
        go_at_call 23
        refine Calls.mono HC.out ?_
        rintro z w2 ⟨rfl, c2⟩
        exact hK.out _ w2 (HJ.out.go c2) rfl
      · show StepWS _ _ _ _ _ _ _ _ _ -- 6
        unfold StepWS
        intro L u w_ hj hli hwt hd K hK
        clear hd
        have HJ : Hid _ := hj
        have h6 : L 6 = false := off_of hj.s1 hli
        have HZ : Hid ((if L 6 = true then abA Fr24.F6 else abA [0, 0, 0, 0, 0, 0]) = abA [0, 0, 0, 0, 0, 0]) := by show _ = _; rw [h6]; rfl
        clear hj hwt hli h6
        go_simp
        exact hK.out _ _ (HJ.out.mk1 HZ.out) trivial
      · show StepWS _ _ _ _ _ _ _ _ _ -- 7
        unfold StepWS
        intro L u w_ hj hli hwt hd K hK
        clear hd
        have HJ : Hid _ := hj
        have h7 : L 7 = false := off_of hj.s2 hli
        have HZ : Hid ((if L 7 = true then abA CR else abA [0, 0, 0, 0]) = abA [0, 0, 0, 0]) := by show _ = _; rw [h7]; rfl
        clear hj hwt hli h7
        go_simp
        exact hK.out _ _ (HJ.out.mk2 HZ.out) trivial
      · show StepWS _ _ _ _ _ _ _ _ _ -- #6
        unfold StepWS
        intro L u w_ hj hli hwt hd K hK
        have h16 : u 16 = ab Fr24.F6 := hd.get 0 (by kernel_rfl)
        clear hd
        have hl := hwt { on := 4, ground := .data } (by simp) (by kernel_rfl)
        obtain ⟨g, e6, hg, hb⟩ := hj.h1 hl
        have hx := hj.st1 hl e6 (by decide) (abA Fr24.F6)
        have hs : (if L 6 = true then abA Fr24.F6 else abA [0, 0, 0, 0, 0, 0]).size = (abA Fr24.F6).size := by split <;> rfl
        rw [if_pos (by rfl)]
        exact wp_store_row 56 (.tmp 6) (.tmp 16) rfl g (abA Fr24.F6) e6 h16 56 _ hb info6x hs (abA_one _) (hK.out undef _ hx trivial)
      · show StepWS _ _ _ _ _ _ _ _ _ -- #7
        unfold StepWS
        intro L u w_ hj hli hwt hd K hK
        have h19 : u 19 = ab CR := hd.get 3 (by kernel_rfl)
        clear hd
        have hl := hwt { on := 5, ground := .data } (by simp) (by kernel_rfl)
        obtain ⟨g, e7, hg, hb⟩ := hj.h2 hl
        have hx := hj.st2 hl e7 (by decide) (abA CR)
        have hs : (if L 7 = true then abA CR else abA [0, 0, 0, 0]).size = (abA CR).size := by split <;> simp [abA_size, HCL.out]
        have hi4 : (Tryd.prog.info? 57).map (·.size) = some (abA CR).size := by rw [abA_size, HCL.out]; exact info4x
        rw [if_pos (by rfl)]
        exact wp_store_row 57 (.tmp 7) (.tmp 19) rfl g (abA CR) e7 h19 57 _ hb hi4 hs (abA_one _) (hK.out undef _ hx trivial)
    · intro u w3 hj hA
      obtain ⟨g6, e6, hg6, hb6⟩ := hj.h1 rfl
      obtain ⟨g7, e7, hg7, hb7⟩ := hj.h2 rfl
      have HB6 : Hid (w3.heap[g6]? = some (.cells (abA Fr24.F6) 56 (0, 0))) := hb6
      have HB7 : Hid (w3.heap[g7]? = some (.cells (abA CR) 57 (0, 0))) := hb7
      have HBF : Hid (w3.heap[F]? = some (.cells (abA [0, kn]) 53 (0, 0))) := blk_keep HW2.out.2 hj.ch (fun f => f)
      have HCB : Hid (Chg (fun _ => False) w w3) := chg_then HW2.out.1 hj.ch
      simp only [e6, e7]
      clear hj hA e6 e7 hb6 hb7 HW2 HTW HSM HDG hg6 hg7
      have HNW : Hid _ := Wire.newWriter_any w3
      go_wp2_with fail
      refine Calls.mono HNW.out ?_
      rintro z wn ⟨rfl, rfl⟩
      obtain ⟨NB, hNB⟩ : ∃ N, w3.heap.size = N := ⟨_, rfl⟩
      have HNB : Hid (w3.heap.size = NB) := hNB
      obtain ⟨wa, hwa⟩ : ∃ W, w3.alloc (.cells #[.int .i64 0, .slice none 0 0] 79) = W := ⟨_, rfl⟩
      have HR0 : Hid (Wire.Wr NB wa NB (.slice none 0 0) [] ∧ Chg (fun _ => False) w wa) := by
        rw [← hwa, ← hNB]
        exact ⟨Wire.newWr_at _ _ (Nat.le_refl _), chg_then HCB.out (chg_one _ _)⟩
      have hca : Chg (fun _ => False) w3 wa := by rw [← hwa]; exact chg_one _ _
      have HB60 : Hid (g6 < NB ∧ wa.heap[g6]? = w3.heap[g6]?) := ⟨by have := lt_of_blk HB6.out; omega, by rw [blk_keep HB6.out hca (fun f => f), HB6.out]⟩
      have HBF0 : Hid (F < NB ∧ wa.heap[F]? = w3.heap[F]?) := ⟨by have := lt_of_blk HBF.out; omega, by rw [blk_keep HBF.out hca (fun f => f), HBF.out]⟩
      have HB70 : Hid (g7 < NB ∧ wa.heap[g7]? = w3.heap[g7]?) := ⟨by have := lt_of_blk HB7.out; omega, by rw [blk_keep HB7.out hca (fun f => f), HB7.out]⟩
      rw [HB6.out] at HB60
      rw [HBF.out] at HBF0
      rw [HB7.out] at HB70
      rw [hNB, hwa]
      clear hca hwa hNB HNW
      have HP0 : Hid _ := Wire.put_m NB NB (.slice none 0 0) [] (nums Fr24.F6) (some ⟨g6, 0, none⟩) 6 6 wa HR0.out.1 (by have := HR0.out.1.lt; omega) (row8_ab HB60.out.2 6 (by first | rfl | exact HCL.out) 6) (by first | decide | (simp [nums_len, Fr24.F6, Fr24.E2, HCL.out]; done))
      go_wp2_with fail
      refine Calls.mono HP0.out ?_
      rintro z wb0 ⟨rfl, v0, hw0, hc0, -⟩
      have HR1 : Hid (Wire.Wr NB wb0 NB v0 (nums (Fr24.F6)) ∧ Chg (fun _ => False) w wb0) := ⟨by simpa only [nums_app, List.nil_append] using hw0, wr_goF (by have := HCB.out.size; have := HNB.out; omega) HR0.out.1 HR0.out.2 hc0⟩
      have HB61 : Hid (g6 < NB ∧ wb0.heap[g6]? = some _) := ⟨HB60.out.1, box_wr HR0.out.1 hc0 HB60.out.1 HB60.out.2⟩
      have HBF1 : Hid (F < NB ∧ wb0.heap[F]? = some _) := ⟨HBF0.out.1, box_wr HR0.out.1 hc0 HBF0.out.1 HBF0.out.2⟩
      have HB71 : Hid (g7 < NB ∧ wb0.heap[g7]? = some _) := ⟨HB70.out.1, box_wr HR0.out.1 hc0 HB70.out.1 HB70.out.2⟩
      clear hw0 hc0 HP0 HR0 HB60 HBF0 HB70
      have HP1 : Hid _ := Wire.put_m NB NB v0 (nums (Fr24.F6)) (nums [0, kn]) (some ⟨F, 0, none⟩) 2 2 wb0 HR1.out.1 (by have := HR1.out.1.lt; omega) (row8_ab HBF1.out.2 2 (by first | rfl | exact HCL.out) 2) (by first | decide | (simp [nums_len, Fr24.F6, Fr24.E2, HCL.out]; done))
      go_wp2_with fail
      refine Calls.mono HP1.out ?_
      rintro z wb1 ⟨rfl, v1, hw1, hc1, -⟩
      have HR2 : Hid (Wire.Wr NB wb1 NB v1 (nums (Fr24.F6 ++ [0, kn])) ∧ Chg (fun _ => False) w wb1) := ⟨by simpa only [nums_app, List.nil_append] using hw1, wr_goF (by have := HCB.out.size; have := HNB.out; omega) HR1.out.1 HR1.out.2 hc1⟩
      have HB62 : Hid (g6 < NB ∧ wb1.heap[g6]? = some _) := ⟨HB61.out.1, box_wr HR1.out.1 hc1 HB61.out.1 HB61.out.2⟩
      have HBF2 : Hid (F < NB ∧ wb1.heap[F]? = some _) := ⟨HBF1.out.1, box_wr HR1.out.1 hc1 HBF1.out.1 HBF1.out.2⟩
      have HB72 : Hid (g7 < NB ∧ wb1.heap[g7]? = some _) := ⟨HB71.out.1, box_wr HR1.out.1 hc1 HB71.out.1 HB71.out.2⟩
      clear hw1 hc1 HP1 HR1 HB61 HBF1 HB71
      have HP2 : Hid _ := Wire.put_m NB NB v1 (nums (Fr24.F6 ++ [0, kn])) (nums CR) (some ⟨g7, 0, none⟩) 4 4 wb1 HR2.out.1 (by have := HR2.out.1.lt; omega) (row8_ab HB72.out.2 4 (by first | rfl | exact HCL.out) 4) (by first | decide | (simp [nums_len, Fr24.F6, Fr24.E2, HCL.out]; done))
      go_wp2_with fail
      refine Calls.mono HP2.out ?_
      rintro z wb2 ⟨rfl, v2, hw2, hc2, -⟩
      have HR3 : Hid (Wire.Wr NB wb2 NB v2 (nums (Fr24.F6 ++ [0, kn] ++ CR)) ∧ Chg (fun _ => False) w wb2) := ⟨by simpa only [nums_app, List.nil_append] using hw2, wr_goF (by have := HCB.out.size; have := HNB.out; omega) HR2.out.1 HR2.out.2 hc2⟩
      have HB63 : Hid (g6 < NB ∧ wb2.heap[g6]? = some _) := ⟨HB62.out.1, box_wr HR2.out.1 hc2 HB62.out.1 HB62.out.2⟩
      have HBF3 : Hid (F < NB ∧ wb2.heap[F]? = some _) := ⟨HBF2.out.1, box_wr HR2.out.1 hc2 HBF2.out.1 HBF2.out.2⟩
      have HB73 : Hid (g7 < NB ∧ wb2.heap[g7]? = some _) := ⟨HB72.out.1, box_wr HR2.out.1 hc2 HB72.out.1 HB72.out.2⟩
      clear hw2 hc2 HP2 HR2 HB62 HBF2 HB72
      have HLN : Hid ((Fr24.F6 ++ [0, kn] ++ CR).length = 12) := by show _ = _; simp only [List.length_append, HCL.out]; rfl
      have hby := Wire.bytes_any NB NB v2 (nums (Fr24.F6 ++ [0, kn] ++ CR)) wb2 HR3.out.1 (by rw [nums_len, HLN.out]; decide)
      rw [nums_len, HLN.out] at hby
      have HBY : Hid _ := hby
      clear hby
      go_wp2_with fail
      refine Calls.mono HBY.out ?_
      rintro z wz ⟨rfl, hbz, cz⟩
      have HFI : Hid (ByO wz w.heap.size (.slice (some ⟨wb2.heap.size, 0, none⟩) 12 12) (Fr24.F6 ++ [0, kn] ++ CR) ∧ Chg (fun _ => False) w wz) := by
        refine ⟨?_, chg_then HR3.out.2 cz⟩
        have h9 := byO_blkF hbz (show w.heap.size ≤ wb2.heap.size from HR3.out.2.size) (by rw [HLN.out]; decide)
        rw [HLN.out] at h9
        exact h9
      clear hbz cz HBY HR3
      go_wp2
      go_ret2
      exact ⟨_, by rw [HF.out]; rfl, by rw [HF.out, HHB.out, ← List.append_assoc]; exact HFI.out.1, HFI.out.2⟩
end Go.Proofs.YtikokgngkagieaaDoor
