/- The landed index's Put; of no statement by itself. -/
import Derived.Test.YtehfcfpbjenmjaaDoorIzd
import Derived.Test.YtehfcfpbjenmjaaDoorBoundA
namespace Go.Proofs.YtehfcfpbjenmjaaDoor
open Go.RowKit
set_option linter.unusedVariables false
set_option linter.unusedSimpArgs false
attribute [local go_sem] Oper.semAt_some
theorem lowB4x (M : Nat) : Wire.lowBytes (M : Int) 4 = nums (Cq.Crc.low M 4) := by
  have e2 : Cq.Crc.low M 4 = [M % 256, M / 256 % 256, M / 256 / 256 % 256, M / 256 / 256 / 256 % 256] := rfl
  rw [e2]
  simp [Wire.lowBytes, Wire.byteAt, List.range_succ, nums]
  refine ⟨?_, ?_⟩ <;> omega
theorem byO_blkX {w : World} {B g : Nat} {bs : List Nat} (h : w.heap[g]? = some (.cells (Wire.cells8 (nums bs)).toArray 5 (0, 0))) (hB : B ≤ g) (hl : bs.length ≤ 140737488355328) : ByO w B (.slice (some ⟨g, 0, none⟩) bs.length bs.length) bs := by
  have e : (Wire.cells8 (nums bs)).length = bs.length := by simp [Wire.cells8, nums]
  refine ⟨by simp [ins, nums], .inr ⟨g, bs.length, _, rfl, hB, h, Nat.le_refl _, by unfold maxLen; omega, by simp [Wire.cells8, nums], ?_⟩⟩
  rw [List.take_of_length_le (by simp [Wire.cells8, nums])]
  simp [Wire.cells8, ins]
/-- What holds behind the numbers. -/
structure Aft (N : Nat) (w0 : World) (a bx D : Nat) (v : Value) (bs : List Nat) (W : World) : Prop where
  r0 : W.heap[N]? = some (.cells #[.slice none 0 0] 22 (0, 0))
  r1 : W.heap[N + 1]? = some (.cells #[.int .i64 0] 24 (0, 0))
  box : W.heap[bx]? = some (.cells #[.pointer (some ⟨a, 0, none⟩)] 70 (0, 0))
  ch : Chg (fun _ => False) w0 W
  wr : Wire.Wr (N + 2) W a v (nums bs)
  d : W.heap[D]? = some (.deferred (some []))
  lo : w0.heap.size = N ∧ N + 2 ≤ a ∧ a ≠ D ∧ N + 2 ≤ D ∧ bx ≠ a
theorem Aft.new {N : Nat} {w0 : World} {a bx D : Nat} {v : Value} {bs : List Nat} {W W' : World} (h : Aft N w0 a bx D v bs W) (c : Chg (fun _ => False) W W') : Aft N w0 a bx D v bs W' :=
  ⟨blk_keep h.r0 c (fun f => f), blk_keep h.r1 c (fun f => f), blk_keep h.box c (fun f => f), chg_then h.ch c, h.wr.keep c (fun f => f) (fun _ _ f => f), blk_keep h.d c (fun f => f), h.lo⟩
theorem Aft.step {N : Nat} {w0 : World} {a bx D : Nat} {v v' : Value} {bs bs' : List Nat} {W W' : World} (h : Aft N w0 a bx D v bs W) (hw : Wire.Wr (N + 2) W' a v' (nums bs')) (c : Chg (Foot a v) W W') : Aft N w0 a bx D v' bs' W' := by
  have hlo := h.lo
  refine ⟨blk_keep h.r0 c ?_, blk_keep h.r1 c ?_, blk_keep h.box c ?_, h.ch.trans c (fun z f => .inr (by have := (h.wr.foot z f).1; omega)), hw, blk_keep h.d c ?_, hlo⟩
  · rintro (e | e)
    · omega
    · exact row_ne h.wr.row h.r0 (by decide) e
  · rintro (e | e)
    · omega
    · exact row_ne h.wr.row h.r1 (by decide) e
  · rintro (e | e)
    · omega
    · exact row_ne h.wr.row h.box (by decide) e
  · rintro (e | e)
    · omega
    · obtain ⟨cs, t, hcs⟩ := own_cells h.wr.row e
      have := h.d
      rw [hcs] at this
      cases this
/-- Inside the region that sums. -/
def SmJ (N : Nat) (w0 : World) (a bx D : Nat) (v : Value) (B : List Nat) (BL q : Nat) (u36 u37 : Value) (W : World) : Prop :=
  Aft N w0 a bx D v B W ∧ (1 ≤ q → ∃ g : Nat, u36 = .slice (some ⟨g, 0, none⟩) BL BL ∧ Row8 W (some ⟨g, 0, none⟩) BL BL (nums B)) ∧ (2 ≤ q → ∃ g : Nat, u37 = .slice (some ⟨g, 0, none⟩) 1 1 ∧ Cq.Pieces W ⟨g, 0, none⟩ [B])
set_option maxHeartbeats 8000000 in
set_option maxRecDepth 100000 in
theorem put23_any (ad : Option Addr) (n c : Nat) (l : List Rec) (w0 : World) (hT : Vint.Tab w0 ∧ Cq.Tab w0) (h : RcF w0 ad n c l) (hn : n ≤ 8796093022208) : Calls Tryd.prog 12 #[.slice ad n c] w0 fun e w' => ∃ ov, e = .returned (.tuple #[ov, .int .i64 (Ix23.putI l).2]) ∧ ByO w' w0.heap.size ov (Ix23.putI l).1 ∧ Chg (fun _ => False) w0 w' := by
  have HT : Hid (Vint.Tab w0 ∧ Cq.Tab w0) := hT
  have HL : Hid (RcF w0 ad n c l) := h
  have HLN : Hid (l.length = n) := h.len
  have hni : (n : Int) ≤ 8796093022208 := by omega
  have HN8 : Hid (n ≤ 8796093022208) := hn
  have HR : Hid (∀ w, Chg (fun _ => False) w0 w → Calls Tryd.prog 31 #[.slice ad n c] w fun e w' => e = .returned (.bool (Ix23.rightB 0 0 l)) ∧ Chg (fun _ => False) w w') := fun w hw => areRight_any ad n c l w (h.new hw) (by omega)
  obtain ⟨ok, hok⟩ : ∃ b, Ix23.rightB 0 0 l = b := ⟨_, rfl⟩
  have HOK : Hid (Ix23.rightB 0 0 l = ok) := hok
  rw [hok] at HR
  obtain ⟨N, hN⟩ : ∃ N, w0.heap.size = N := ⟨_, rfl⟩
  have HNN : Hid (w0.heap.size = N) := hN
  obtain ⟨W1, hW1⟩ : ∃ W1, (w0.alloc (.cells #[.slice none 0 0] 22)).alloc (.cells #[.int .i64 0] 24) = W1 := ⟨_, rfl⟩
  have HW1 : Hid (W1.heap[N]? = some (.cells #[.slice none 0 0] 22 (0, 0)) ∧ W1.heap[N + 1]? = some (.cells #[.int .i64 0] 24 (0, 0)) ∧ Chg (fun _ => False) w0 W1 ∧ W1.heap.size = N + 2) := by
    have k1 := chg_one (w0.alloc (.cells #[.slice none 0 0] 22)) (.cells #[.int .i64 0] 24)
    have b1 := heap_alloc_last w0 (.cells #[.slice none 0 0] 22)
    have b2 := heap_alloc_last (w0.alloc (.cells #[.slice none 0 0] 22)) (.cells #[.int .i64 0] 24)
    rw [World.size_alloc] at b2
    rw [← hW1, ← hN]
    exact ⟨blk_keep b1 k1 (fun f => f), b2, chg_then (chg_one w0 _) k1, by rw [World.size_alloc, World.size_alloc]⟩
  have HX1 : Hid _ := HR.out W1 HW1.out.2.2.1
  clear h hT hok hn
  refine callsIn_wide (n := 0).1 (callsIn_of_wp_marks Tryd.func12 rfl trivial (wpIn_wide.2 ?_))
  simp only [Tryd.ntmps12, List.size_toArray, List.length_cons, List.length_nil, Nat.reduceAdd, Nat.reduceSub, Array.replicate_succ, Array.replicate_zero, List.push_toArray, List.append_toArray, List.nil_append, List.cons_append]
  go_upto_region 1 with fail
  try rw [hN]
  try rw [hW1]
  clear hW1 hN
  go_wp2_with fail
  refine Calls.mono HX1.out ?_
  rintro z w2 ⟨rfl, c2⟩
  have HC2 : Hid (Chg (fun _ => False) w0 w2) := chg_then HW1.out.2.2.1 c2
  have x0 := one0 (blk_keep HW1.out.1 c2 (fun f => f))
  have x1 := one0 (blk_keep HW1.out.2.1 c2 (fun f => f))
  cases ok
  · have HE : Hid (Ix23.putI l = ([], 7)) := Ix23.putI_7 (by rw [HOK.out]; simp)
    have b0 := blk_keep HW1.out.1 c2 (fun f => f)
    have b1 := blk_keep HW1.out.2.1 c2 (fun f => f)
    have k0 : Chg (fun z => z = N ∨ z = N + 1) w2 (w2.setCell ⟨N, 0, none⟩ (.slice none 0 0)) := (Chg.refl (fun z => z = N ∨ z = N + 1) w2).setCell (p := ⟨N, 0, none⟩) (.inl (.inl rfl)) _
    have k1 : Chg (fun z => z = N ∨ z = N + 1) w2 ((w2.setCell ⟨N, 0, none⟩ (.slice none 0 0)).setCell ⟨N + 1, 0, none⟩ (.int .i64 7)) := k0.setCell (p := ⟨N + 1, 0, none⟩) (.inl (.inr rfl)) _
    have d0 := Vint.blk_setk (l := [.slice none 0 0]) b0 0 (.slice none 0 0)
    have d1 := blk_keep b1 ((Chg.refl (fun z => z = N) w2).setCell (p := ⟨N, 0, none⟩) (.inl rfl) (.slice none 0 0)) (by omega)
    have e1 := Vint.blk_setk (l := [.int .i64 0]) d1 0 (.int .i64 7)
    have e0 := blk_keep d0 ((Chg.refl (fun z => z = N + 1) _).setCell (p := ⟨N + 1, 0, none⟩) (.inl rfl) (.int .i64 7)) (by omega)
    have y0 := one0 e0
    have y1 := one0 e1
    have f0 := fr0 b0
    have f1 := fr0 d1
    have HCE : Hid (Chg (fun _ => False) w0 ((w2.setCell ⟨N, 0, none⟩ (.slice none 0 0)).setCell ⟨N + 1, 0, none⟩ (.int .i64 7))) := HC2.out.trans k1 (fun z e => .inr (by have := HNN.out; omega))
    clear b0 b1 k0 k1 d0 d1 e0 e1 c2 HX1 HR
    go_wp2
    refine ⟨.tuple #[.slice none 0 0, .int .i64 7], by simp [results, Tryd.results12, go_sem, y0, y1], ?_⟩
    exact ⟨.slice none 0 0, (by rw [HE.out]), (by rw [HE.out]; exact byO_nil _ _), HCE.out⟩
  · have HCR : Hid (Ix23.putI l = (Ix23.body l ++ crc4 (Ix23.body l), 0)) := Ix23.putI_0 HOK.out
    have hcroom := core_room HOK.out (by rw [HLN.out]; exact HN8.out)
    have hzp := Ix23.zpad_is (Ix23.core l).length
    obtain ⟨C, hC⟩ : ∃ C, (Ix23.core l).length = C := ⟨_, rfl⟩
    obtain ⟨Z, hZ⟩ : ∃ Z, Ix23.zpad C = Z := ⟨_, rfl⟩
    obtain ⟨B, hB⟩ : ∃ B, Ix23.body l = B := ⟨_, rfl⟩
    obtain ⟨BL, hBL⟩ : ∃ BL, B.length = BL := ⟨_, rfl⟩
    rw [hC] at hcroom hzp
    rw [hZ] at hzp
    have hbl := Ix23.body_len l
    rw [hB, hBL, hC, hZ] at hbl
    have HBC : Hid (B = Ix23.core l ++ List.replicate Z 0 ∧ (Ix23.core l).length = C) := by
      refine ⟨?_, hC⟩
      rw [← hB, ← hZ, ← hC]
      rfl
    have HBD : Hid (Rc.Dig B ∧ BL ≤ 61572651155503 ∧ B.length = BL) := ⟨by rw [← hB]; exact Ix23.body_dig l, by omega, hBL⟩
    rw [hB] at HCR
    obtain ⟨M, hM⟩ : ∃ M, Cq.Crc.more Cq.Crc.P32 32 0 B = M := ⟨_, rfl⟩
    have hm := more_dig HBD.out.1
    rw [hM] at hm
    have hmi : (M : Int) < 4294967296 := by omega
    have HMB : Hid (nums B ++ Wire.lowBytes (M : Int) 4 = nums (B ++ crc4 B)) := by
      show _ = _
      rw [nums_app, lowB4x]
      unfold crc4
      rw [hM]
    have HSM : Hid (∀ (w : World) (g : Nat), Chg (fun _ => False) w0 w → Cq.Pieces w ⟨g, 0, none⟩ [B] → Calls Tryd.prog 40 #[.slice (some ⟨g, 0, none⟩) 1 1] w fun e w' => e = .returned (.int .u32 (M : Int)) ∧ w = w') := fun w g hw hp => by
      have h9 := Cq.sum32_any ⟨g, 0, none⟩ 1 1 [B] w (HT.out.2.new hw) hp rfl (by decide)
      rw [show ([B] : List (List Nat)).flatten = B by simp, hM] at h9
      exact h9
    have hCi : (C : Int) ≤ 61572651155500 := by omega
    have hZi : (Z : Int) ≤ 3 := by omega
    have HNUM : Hid ((C : Int) ≤ 61572651155500 ∧ (Z : Int) ≤ 3 ∧ (M : Int) < 4294967296) := ⟨hCi, hZi, hmi⟩
    have hpad : (4 - (C : Int) % 4) % 4 = (Z : Int) := by rw [← hZ]; unfold Ix23.zpad; omega
    have HPD : Hid (∀ w : World, Calls Tryd.prog 37 #[.int .i64 (C : Int)] w fun e w' => e = .returned (.int .i64 (Z : Int)) ∧ w = w') := fun w => by
      have h9 := Wire.pad_pos (C : Int) w (by omega) (by have := HNUM.out; omega)
      rw [hpad] at h9
      exact h9
    have HP : Hid (∀ q ∈ l, 0 ≤ q.u ∧ 0 ≤ q.s) := fun q hq => by
      have := (Ix23.right_is HOK.out (by omega) (by omega)).1 q hq
      omega
    have HNW : Hid _ := Wire.newWriter_any w2
    have HW3 : Hid (Wire.Wr (N + 2) (w2.alloc (.cells #[.int .i64 0, .slice none 0 0] 106)) w2.heap.size (.slice none 0 0) [] ∧ (w2.alloc (.cells #[.int .i64 0, .slice none 0 0] 106)).heap[N]? = some (.cells #[.slice none 0 0] 22 (0, 0)) ∧ (w2.alloc (.cells #[.int .i64 0, .slice none 0 0] 106)).heap[N + 1]? = some (.cells #[.int .i64 0] 24 (0, 0)) ∧ Chg (fun _ => False) w0 (w2.alloc (.cells #[.int .i64 0, .slice none 0 0] 106)) ∧ N + 2 ≤ w2.heap.size ∧ (w2.alloc (.cells #[.int .i64 0, .slice none 0 0] 106)).heap.size = w2.heap.size + 1) := by
      have hs : N + 2 ≤ w2.heap.size := by have := c2.size; have := HW1.out.2.2.2; omega
      exact ⟨Wire.newWr_at (N + 2) w2 hs, blk_keep (blk_keep HW1.out.1 c2 (fun f => f)) (chg_one _ _) (fun f => f), blk_keep (blk_keep HW1.out.2.1 c2 (fun f => f)) (chg_one _ _) (fun f => f), chg_then HC2.out (chg_one _ _), hs, World.size_alloc _ _⟩
    clear c2 HX1 HR x0 x1 hC hZ hB hBL hM hm hcroom hzp hbl hpad HW1 hmi hCi hZi
    go_wp2_with fail
    refine Calls.mono HNW.out ?_
    rintro z w3 ⟨rfl, rfl⟩
    obtain ⟨a, ha⟩ : ∃ a, w2.heap.size = a := ⟨_, rfl⟩
    rw [ha] at HW3
    try rw [ha]
    generalize w2.alloc (.cells #[.int .i64 0, .slice none 0 0] 106) = w3 at *
    have HW4 : Hid (Wire.Wr (N + 2) (w3.alloc (.cells #[.pointer (some ⟨a, 0, none⟩)] 70)) a (.slice none 0 0) [] ∧ (w3.alloc (.cells #[.pointer (some ⟨a, 0, none⟩)] 70)).heap[N]? = some (.cells #[.slice none 0 0] 22 (0, 0)) ∧ (w3.alloc (.cells #[.pointer (some ⟨a, 0, none⟩)] 70)).heap[N + 1]? = some (.cells #[.int .i64 0] 24 (0, 0)) ∧ Chg (fun _ => False) w0 (w3.alloc (.cells #[.pointer (some ⟨a, 0, none⟩)] 70)) ∧ (w3.alloc (.cells #[.pointer (some ⟨a, 0, none⟩)] 70)).heap[w3.heap.size]? = some (.cells #[.pointer (some ⟨a, 0, none⟩)] 70 (0, 0)) ∧ w3.heap.size < (w3.alloc (.cells #[.pointer (some ⟨a, 0, none⟩)] 70)).heap.size ∧ N + 2 ≤ a ∧ w3.heap.size = a + 1) := ⟨HW3.out.1.alloc _, blk_keep HW3.out.2.1 (chg_one _ _) (fun f => f), blk_keep HW3.out.2.2.1 (chg_one _ _) (fun f => f), chg_then HW3.out.2.2.2.1 (chg_one _ _), heap_alloc_last _ _, by rw [World.size_alloc]; omega, HW3.out.2.2.2.2.1, HW3.out.2.2.2.2.2⟩
    clear HNW HW3 ha HC2
    go_upto_region 4 with fail
    obtain ⟨bx, hbx⟩ : ∃ bx, w3.heap.size = bx := ⟨_, rfl⟩
    rw [hbx] at HW4
    try rw [hbx]
    generalize w3.alloc (.cells #[.pointer (some ⟨a, 0, none⟩)] 70) = w4 at *
    clear hbx
    have x4 := one0 HW4.out.2.2.2.2.1
    have x5 := one0 (blk_keep HW4.out.2.2.2.2.1 (chg_one w4 (.cells #[.int .u8 0] 5)) (fun f => f))
    have HX5 : Hid _ := Wire.put_m (N + 2) a (.slice none 0 0) [] [0] (some ⟨w4.heap.size, 0, none⟩) 1 1 (w4.alloc (.cells #[.int .u8 0] 5)) (HW4.out.1.alloc _) (by have := HW4.out; rw [World.size_alloc]; omega) (Wire.row8_one _ _ _) (by simp)
    go_wp2_with fail
    refine Calls.mono HX5.out ?_
    rintro z w5 ⟨rfl, v5, hw5, hc5, hm5⟩
    have HW5 : Hid (Wire.Wr (N + 2) w5 a v5 (nums [0]) ∧ w5.heap[N]? = some (.cells #[.slice none 0 0] 22 (0, 0)) ∧ w5.heap[N + 1]? = some (.cells #[.int .i64 0] 24 (0, 0)) ∧ Chg (fun _ => False) w0 w5 ∧ w5.heap[bx]? = some (.cells #[.pointer (some ⟨a, 0, none⟩)] 70 (0, 0)) ∧ bx < w5.heap.size ∧ a < w5.heap.size) := by
      have hA := chg_one w4 (.cells #[.int .u8 0] 5)
      have key : ∀ z, z ≠ a → ¬ Foot a (.slice none 0 0) z := fun z h f => by
        rcases f with f | f
        · exact h f
        · simp [Value.ownBlock] at f
      have hlo := HW4.out.2.2.2.2.2
      have hs5 := hc5.size
      rw [World.size_alloc] at hs5
      refine ⟨hw5, blk_keep (blk_keep HW4.out.2.1 hA (fun f => f)) hc5 (key _ (by omega)), blk_keep (blk_keep HW4.out.2.2.1 hA (fun f => f)) hc5 (key _ (by omega)), (chg_then HW4.out.2.2.2.1 hA).trans hc5 (fun z f => .inr ?_), blk_keep (blk_keep HW4.out.2.2.2.2.1 hA (fun f => f)) hc5 (key _ (by omega)), by omega, by omega⟩
      rcases f with f | f
      · have := HNN.out; omega
      · simp [Value.ownBlock] at f
    clear hw5 hc5 hm5 HX5 x4 x5
    have HX6 : Hid _ := numbers_any ad n c w5
    have HP6 : Hid (PtI N w0 l ad n c (w5.alloc (.cells #[.slice ad n c] 23)).heap.size a bx w5.heap.size 0 (fun _ => False) v5 (w5.alloc (.cells #[.slice ad n c] 23))) := by
      have hA := chg_one w5 (.cells #[.slice ad n c] 23)
      refine ⟨blk_keep HW5.out.2.1 hA (fun f => f), blk_keep HW5.out.2.2.1 hA (fun f => f), blk_keep HW5.out.2.2.2.2.1 hA (fun f => f), heap_alloc_last _ _, chg_then HW5.out.2.2.2.1 hA, HW5.out.1.alloc _, fun _ f => f.elim, Nat.le_refl _, ?_⟩
      have h1 := HW4.out.2.2.2.2.2
      have h2 := HW5.out.2.2.2.2.2
      rw [World.size_alloc]
      exact ⟨HNN.out, by omega, by omega, by omega, by omega, by omega, by omega⟩
    go_wp2_with fail
    refine Calls.mono HX6.out ?_
    rintro z w6 ⟨rfl, rfl⟩
    obtain ⟨b, hb⟩ : ∃ b, w5.heap.size = b := ⟨_, rfl⟩
    rw [hb] at HP6
    try rw [hb]
    generalize w5.alloc (.cells #[.slice ad n c] 23) = w6 at *
    clear hb HX6 HW5
    go_wp2_with fail
    refine wpIn_wide.1 (wp_rangeK (gf := 60) (lb := #[.pointer (some ⟨b, 0, none⟩)]) rfl (fun args w => by kernel_rfl) (num_go b ad n c l (by omega) HP.out) rfl
      (fun _ => False) (fun Ns k W => ∃ v, PtI N w0 l ad n c w6.heap.size a bx b k Ns v W) (fun _ _ _ _ => False)
      (fun Ns k a₁ W => ∃ v x, (numN l)[k]? = some x ∧ PtI N w0 l ad n c w6.heap.size a bx b k Ns v W ∧ a₁ = { tmps := #[.slice ad n c, undef, .pointer (some ⟨N, 0, none⟩), .pointer (some ⟨N + 1, 0, none⟩), .pointer (some ⟨bx, 0, none⟩), .int .u64 (x : Int), undef, undef, .slice ad n c, .bool true, .bool false, .pointer (some ⟨a, 0, none⟩), .pointer (some ⟨a, 0, none⟩), .slice (some ⟨w4.heap.size, 0, none⟩) 1 1, .tuple #[], .slice ad n c, .func (.func 60) #[] #[.pointer (some ⟨b, 0, none⟩)], .int .u64 (x : Int), undef, undef, undef, undef, undef, undef, undef, undef, undef, undef, undef, undef, undef, undef, undef, undef, undef, undef, undef, undef, undef, undef, undef, undef, undef], defers := [] })
      (fun Ns k W W' ⟨v, h⟩ hc => ⟨v, h.turn hc⟩) (fun _ _ _ _ _ f _ => f)
      (fun Ns k a₁ W W' ⟨v, x, h1, h2, h3⟩ hc => ⟨v, x, h1, h2.turn hc, h3⟩)
      (fun Ns Ns' k X Y ⟨v, h⟩ hc g1 g2 g3 => ⟨v, h.more hc g2 g3⟩)
      (fun _ f => f.elim)
      (fun Ns W ⟨v, h⟩ => ⟨h.nb, HL.out.new h.ch⟩) (fun Ns k W ⟨v, h⟩ => ⟨h.nb, HL.out.new h.ch⟩) ⟨v5, HP6.out⟩ ?assign ?body ?done ?stop)
    case assign =>
      rintro Ns ll k hk W ⟨v, hA⟩ K hK
      have hkm : k < (numN l).length := by rw [numN_len]; exact hk
      have hx := List.getElem?_eq_getElem hkm
      obtain ⟨x, hxx⟩ : ∃ x, (numN l)[k] = x := ⟨_, rfl⟩
      rw [hxx] at hx
      have hv : (numV l)[k] = Value.int .u64 (x : Int) := by
        have h9 : (numV l)[k]? = some (Value.int .u64 (x : Int)) := by rw [numV_N HP.out, List.getElem?_map, hx]; rfl
        exact (List.getElem?_eq_some_iff.1 h9).2
      rw [hv]
      have HA : Hid _ := hA
      have HXX : Hid _ := hx
      clear hA hv hxx hx
      gi_wp2
      exact hK _ _ ⟨v, x, HXX.out, HA.out, rfl⟩ (Calm.new (Chg.refl _ _))
    case body =>
      rintro Ns ll k hk a₁ W hBl hrec ⟨v, x, hx, hA, rfl⟩
      have hxl := numN_le HOK.out x (List.mem_of_getElem? hx)
      have HXX : Hid _ := hx
      have HA : Hid _ := hA
      have HVP : Hid _ := Vint.put_any (x : Int) W (HT.out.1.new hA.ch) (by omega) (by omega)
      have hsz := (Vint.sz_is (v := (x : Int)) rfl).2.1
      have hvl := Vint.vb_length (x : Int)
      have HSZ : Hid (Vint.sz (x : Int) ≤ 9 ∧ (Vint.vb (x : Int)).length = Vint.sz (x : Int)) := ⟨hsz, hvl⟩
      clear hx hA hrec hsz hvl hxl
      generalize Vint.sz (x : Int) = S at *
      gi_wp2_with fail
      refine ⟨trivial, rfl, (CallsIn.inRound ll (callsIn_wide.2 HVP.out)).mono ?_⟩
      rintro z W2 ⟨rfl, hb2, c2⟩
      have HA2 : Hid _ := HA.out.new c2
      have HCM : Hid (Calm Ns w6.heap.size W W2) := Calm.new c2
      have HX8 : Hid _ := Wire.put_m (N + 2) a v (nums (inI l k)) (Vint.vb (x : Int)) (some ⟨W.heap.size, 0, none⟩) S S W2 HA2.out.wr (by have := HA2.out.wr.lt; have := HA2.out.lo; omega) (Vint.row8_blk hb2 S HSZ.out.2 S) (by have := inI_len l k; have := HBC.out; have := HSZ.out; have := HNUM.out; rw [nums_len]; omega)
      have x9 := one0 HA2.out.box
      clear hb2 c2 HVP HA
      gi_wp2_with fail
      refine ⟨trivial, rfl, (CallsIn.inRound ll (callsIn_wide.2 HX8.out)).mono ?_⟩
      rintro z W3 ⟨rfl, v3, hw3, hc3, hm3⟩
      rw [← nums_vbn] at hw3
      have HF : Hid (Calm Ns w6.heap.size W W3 ∧ ∃ v, PtI N w0 l ad n c w6.heap.size a bx b (k + 1) Ns v W3) := ⟨HCM.out.trans (HA2.out.calm hc3), v3, HA2.out.next HXX.out hw3 hc3 hm3⟩
      clear hw3 hc3 hm3 HX8 HA2 HCM x9
      gi_wp2
      exact HF.out
    case done =>
      rintro Ns D W _ hD ⟨v, hA⟩ hdef
      rw [← numN_len] at hA
      have HA0 : Hid (Aft N w0 a bx D v (Ix23.core l) W) := by
        have h9 := hA.wr
        rw [inI_end] at h9
        have hlo := hA.lo
        exact ⟨hA.r0, hA.r1, hA.box, hA.ch, h9, hdef, hlo.1, hlo.2.1, by omega, by omega, hA.ne.2.2.2.2.1⟩
      have HLE : Hid (∀ w, Wire.Wr (N + 2) w a v (nums (Ix23.core l)) → Calls Tryd.prog 38 #[.pointer (some ⟨a, 0, none⟩)] w fun e w' => e = .returned (.int .i64 (C : Int)) ∧ w = w') := fun w hw => by
        have h9 := Wire.len_any (N + 2) a v (nums (Ix23.core l)) w hw
        rw [nums_len, HBC.out.2] at h9
        exact h9
      clear hA hdef HP6 HP
      go_upto_region 11 with fail
      refine wp_region_phaseQ (mk := fun u => #[_, _, _, _, _, _, _, _, _, _, _, _, _, _, _, _, _, _, _, _, _, _, _, _, _, _, _, _, _, u 29, u 30, u 31, u 32, _, _, _, _, _, _, _, _, _, _]) (G := lookG [(29, .pointer (some ⟨a, 0, none⟩)), (30, .pointer (some ⟨a, 0, none⟩)), (31, .int .i64 (C : Int)), (32, .int .i64 (Z : Int))]) (J := fun _ _ ww => Aft N w0 a bx D v (Ix23.core l) ww) [] (fun i =>  0) ([{ target := .collected D, args := #[] }]) (fun _ => undef) rfl (by kernel_rfl) 4 _ rfl rfl (by kernel_rfl) (by kernel_rfl) (by kernel_rfl) (by decide) ?_ ?_ ?_ (by kernel_rfl) ?_ ?_
      · repeat (refine ⟨fun _ _ => rfl, ?_⟩)
        exact trivial
      · exact fun _ _ _ _ _ h => h
      · exact HA0.out.new (Chg.refl _ _).drew
      · refine ⟨?_, ?_, ?_, ?_, trivial⟩
        · show StepRQ _ _ _ _ _ _ _ _ _ -- 29
          unfold StepRQ
          intro qn hq u w_ hj hd K hK
          clear hd
          have x2 := one0 hj.box
          clear hj
          go_simp
          exact hK.out _ rfl
        · show StepRQ _ _ _ _ _ _ _ _ _ -- 30
          unfold StepRQ
          intro qn hq u w_ hj hd K hK
          clear hd
          have x2 := one0 hj.box
          clear hj
          go_simp
          exact hK.out _ rfl
        · show StepRQ _ _ _ _ _ _ _ _ _ -- 31
          unfold StepRQ
          intro qn hq u w_ hj hd K hK
          have h30 : u 30 = .pointer (some ⟨a, 0, none⟩) := hd.get 1 (by kernel_rfl)
          clear hd
          simp only [h30] at hK
          have HJ : Hid _ := hj
          clear hj
          go_simp
          go_at_call 38
          refine Calls.mono (HLE.out w_ HJ.out.wr) ?_
          rintro z w2 ⟨rfl, rfl⟩
          exact hK.out _ rfl
        · show StepRQ _ _ _ _ _ _ _ _ _ -- 32
          unfold StepRQ
          intro qn hq u w_ hj hd K hK
          have h31 : u 31 = .int .i64 (C : Int) := hd.get 2 (by kernel_rfl)
          clear hd
          simp only [h31] at hK
          clear hj
          go_simp
          go_at_call 37
          refine Calls.mono (HPD.out w_) ?_
          rintro z w2 ⟨rfl, rfl⟩
          exact hK.out _ rfl
      · intro u w7 hj hA K hK
        have HJ : Hid _ := hj
        have e29 : u 29 = .pointer (some ⟨a, 0, none⟩) := hA.at 29 (by kernel_rfl)
        have e32 : u 32 = .int .i64 (Z : Int) := hA.at 32 (by kernel_rfl)
        clear hj hA
        simp only [e29, e32] at hK ⊢
        clear e29 e32
        have HZR : Hid _ := Wire.zeros_yes (N + 2) a v (nums (Ix23.core l)) Z w7 HJ.out.wr (by have := HJ.out.wr.lt; have := HJ.out.lo; omega) (by have := HNUM.out; omega) (by rw [nums_len, HBC.out.2]; have := HNUM.out; omega)
        go_simp
        go_at_call 36
        refine Calls.mono HZR.out ?_
        rintro z w8 ⟨rfl, v8, hw8, hc8, -⟩
        have HA1 : Hid (Aft N w0 a bx D v8 B w8) := HJ.out.step (by rw [HBC.out.1, nums_app]; simpa [nums] using hw8) hc8
        refine hK.out _ _ ?_
        clear hw8 hc8 HZR HJ hK HLE HA0
        obtain ⟨v, hvv⟩ : ∃ v, v8 = v := ⟨_, rfl⟩
        subst hvv
        have HBY : Hid (∀ w, Wire.Wr (N + 2) w a v8 (nums B) → Calls Tryd.prog 41 #[.pointer (some ⟨a, 0, none⟩)] w fun e w' => e = .returned (.slice (some ⟨w.heap.size, 0, none⟩) BL BL) ∧ w'.heap[w.heap.size]? = some (.cells (Wire.cells8 (nums B)).toArray 5 (0, 0)) ∧ Chg (fun _ => False) w w') := fun w hw => by
          have h9 := Wire.bytes_any (N + 2) a v8 (nums B) w hw (by rw [nums_len]; have := HBD.out; omega)
          rw [nums_len, HBD.out.2.2] at h9
          exact h9
        have HRO : Hid (∀ (w : World) (g : Nat), w.heap[g]? = some (.cells (Wire.cells8 (nums B)).toArray 5 (0, 0)) → Row8 w (some ⟨g, 0, none⟩) BL BL (nums B)) := fun w g hg => Wire.row8_blk hg BL (by rw [nums_len, HBD.out.2.2]) BL
        go_upto_region 12 with fail
        refine wp_region_phaseQ (mk := fun u => #[_, _, _, _, _, _, _, _, _, _, _, _, _, _, _, _, _, _, _, _, _, _, _, _, _, _, _, _, _, _, _, _, _, _, u 34, u 35, u 36, u 37, u 38, u 39, _, _, _]) (G := lookG [(34, .pointer (some ⟨a, 0, none⟩)), (35, .pointer (some ⟨a, 0, none⟩)), (38, .int .u32 (M : Int)), (39, .int .u64 (M : Int))]) (J := fun qk u ww => SmJ N w0 a bx D v8 B BL qk (u 36) (u 37) ww) [2, 3, 4] (fun i =>  3) ([{ target := .collected D, args := #[] }]) (fun _ => undef) rfl (by kernel_rfl) 6 _ rfl rfl (by kernel_rfl) (by kernel_rfl) (by kernel_rfl) (by decide) ?_ ?_ ?_ (by kernel_rfl) ?_ ?_
        · repeat (refine ⟨fun _ _ => rfl, ?_⟩)
          exact trivial
        · intro qk u u2 ww h hj
          have e36 : u 36 = u2 36 := h 2 (by decide)
          have e37 : u 37 = u2 37 := h 3 (by decide)
          show SmJ _ _ _ _ _ _ _ _ _ _ _ _
          rw [← e36, ← e37]
          exact hj
        · exact ⟨HA1.out.new (Chg.refl _ _).drew, fun e => absurd e (by decide), fun e => absurd e (by decide)⟩
        · refine ⟨?_, ?_, ?_, ?_, ?_, ?_, trivial⟩
          · show StepRQ _ _ _ _ _ _ _ _ _ -- 34
            unfold StepRQ
            intro qn hq u w_ hj hd K hK
            clear hd
            have x2 := one0 hj.1.box
            clear hj
            go_simp
            exact hK.out _ rfl
          · show StepRQ _ _ _ _ _ _ _ _ _ -- 35
            unfold StepRQ
            intro qn hq u w_ hj hd K hK
            clear hd
            have x2 := one0 hj.1.box
            clear hj
            go_simp
            exact hK.out _ rfl
          · show StepWQ _ _ _ _ _ _ _ _ _ -- 36
            unfold StepWQ
            intro u w_ hj hd K hK
            have h35 : u 35 = .pointer (some ⟨a, 0, none⟩) := hd.get 1 (by kernel_rfl)
            clear hd
            simp only [h35] at hK
            have HJ : Hid _ := hj
            clear hj
            go_simp
            go_at_call 41
            refine Calls.mono (HBY.out w_ HJ.out.1.wr) ?_
            rintro z w2 ⟨rfl, hb, c2⟩
            exact hK.out _ w2 ⟨HJ.out.1.new c2, fun _ => ⟨w_.heap.size, rfl, HRO.out w2 _ hb⟩, fun e => absurd e (by decide)⟩ trivial
          · show StepWQ _ _ _ _ _ _ _ _ _ -- 37
            unfold StepWQ
            intro u w_ hj hd K hK
            clear hd
            have HJ : Hid _ := hj
            clear hj
            obtain ⟨g, e36, hr⟩ := HJ.out.2.1 (by decide)
            have HR9 : Hid _ := hr
            have HE36 : Hid _ := e36
            simp only [e36] at hK ⊢
            clear e36 hr
            go_simp
            exact hK.out _ _ ⟨HJ.out.1.new (chg_one _ _), fun _ => ⟨g, HE36.out, Bk.row8_chg HR9.out (chg_one _ _)⟩, fun _ => ⟨_, rfl, Cq.pieces_one 22 ⟨some ⟨g, 0, none⟩, BL, BL, rfl, HR9.out, HBD.out.1, by have := HBD.out; omega⟩⟩⟩ trivial
          · show StepWQ _ _ _ _ _ _ _ _ _ -- 38
            unfold StepWQ
            intro u w_ hj hd K hK
            clear hd
            have HJ : Hid _ := hj
            clear hj
            obtain ⟨g2, e37, hp⟩ := HJ.out.2.2 (by decide)
            simp only [e37] at hK ⊢
            have HP9 : Hid _ := hp
            clear e37 hp
            go_simp
            go_at_call 40
            refine Calls.mono (HSM.out w_ g2 HJ.out.1.ch HP9.out) ?_
            rintro z w2 ⟨rfl, rfl⟩
            exact hK.out _ _ ⟨HJ.out.1, fun _ => HJ.out.2.1 (by decide), fun _ => HJ.out.2.2 (by decide)⟩ rfl
          · show StepRQ _ _ _ _ _ _ _ _ _ -- 39
            unfold StepRQ
            intro qn hq u w_ hj hd K hK
            have h38 : u 38 = .int .u32 (M : Int) := hd.get 4 (by kernel_rfl)
            clear hd
            simp only [h38] at hK
            clear hj
            go_simp
            rw [w64 (by omega) (by have := HNUM.out; omega)]
            exact hK.out _ rfl
        · intro u w7 hj hA K hK
          have HJ : Hid _ := hj.1
          have e34 : u 34 = .pointer (some ⟨a, 0, none⟩) := hA.at 34 (by kernel_rfl)
          have e39 : u 39 = .int .u64 (M : Int) := hA.at 39 (by kernel_rfl)
          clear hj hA
          simp only [e34, e39] at hK ⊢
          clear e34 e39
          have HLO : Hid _ := Wire.low_yes (N + 2) a v8 (nums B) (M : Int) 4 w7 HJ.out.wr (by have := HJ.out.wr.lt; have := HJ.out.lo; omega) (by decide) (by decide) (by rw [nums_len]; have := HBD.out; omega)
          go_simp
          go_at_call 39
          refine Calls.mono HLO.out ?_
          rintro z w9 ⟨rfl, v9, hw9, hc9, -⟩
          rw [HMB.out] at hw9
          have HA2 : Hid (Aft N w0 a bx D v9 (B ++ crc4 B) w9) := HJ.out.step hw9 hc9
          refine hK.out _ _ ?_
          clear hw9 hc9 HLO HJ hK HBY HRO HA1
          have x4 := one0 HA2.out.box
          obtain ⟨E, hE⟩ : ∃ E, (B ++ crc4 B).length = E := ⟨_, rfl⟩
          have hEl : E ≤ 61572651155507 := by
            rw [← hE, List.length_append, crc4_len]
            have := HBD.out
            omega
          have HEE : Hid ((B ++ crc4 B).length = E) := hE
          have hBY := Wire.bytes_any (N + 2) a v9 (nums (B ++ crc4 B)) w9 HA2.out.wr (by rw [nums_len, hE]; omega)
          rw [nums_len, hE] at hBY
          have HBY : Hid _ := hBY
          have HEl : Hid (E ≤ 61572651155507) := hEl
          clear hBY hE hEl
          go_wp2_with fail
          refine Calls.mono HBY.out ?_
          rintro z wA ⟨rfl, hbA, cA⟩
          have HA3 := HA2.out.new cA
          have hN9 : N + 2 ≤ w9.heap.size := by have := HA2.out.wr.lt; have := HA2.out.lo; omega
          have HOV : Hid (ByO wA w0.heap.size (.slice (some ⟨w9.heap.size, 0, none⟩) E E) (B ++ crc4 B)) := by
            have h9 := byO_blkX hbA (show w0.heap.size ≤ w9.heap.size by rw [HNN.out]; omega) (by rw [HEE.out]; have := HEl.out; omega)
            rw [HEE.out] at h9
            exact h9
          obtain ⟨g, hg⟩ : ∃ g, w9.heap.size = g := ⟨_, rfl⟩
          rw [hg] at HOV hN9
          try rw [hg]
          have k0 : Chg (fun z => z = N ∨ z = N + 1) wA (wA.setCell ⟨N, 0, none⟩ (.slice (some ⟨g, 0, none⟩) E E)) := (Chg.refl (fun z => z = N ∨ z = N + 1) wA).setCell (p := ⟨N, 0, none⟩) (.inl (.inl rfl)) _
          have k1 : Chg (fun z => z = N ∨ z = N + 1) wA ((wA.setCell ⟨N, 0, none⟩ (.slice (some ⟨g, 0, none⟩) E E)).setCell ⟨N + 1, 0, none⟩ (.int .i64 0)) := k0.setCell (p := ⟨N + 1, 0, none⟩) (.inl (.inr rfl)) _
          have d0 := Vint.blk_setk (l := [.slice none 0 0]) HA3.r0 0 (.slice (some ⟨g, 0, none⟩) E E)
          have d1 := blk_keep HA3.r1 ((Chg.refl (fun z => z = N) wA).setCell (p := ⟨N, 0, none⟩) (.inl rfl) (.slice (some ⟨g, 0, none⟩) E E)) (by omega)
          have e1 := Vint.blk_setk (l := [.int .i64 0]) d1 0 (.int .i64 0)
          have e0 := blk_keep d0 ((Chg.refl (fun z => z = N + 1) _).setCell (p := ⟨N + 1, 0, none⟩) (.inl rfl) (.int .i64 0)) (by omega)
          have hK := blk_keep HA3.d k1 (by have := HA3.lo; omega)
          have f0 := fr0 HA3.r0
          have f1 := fr0 d1
          have q0 := one0 HA3.r0
          have q1 := one0 d1
          have kD := chg_put ((wA.setCell ⟨N, 0, none⟩ (.slice (some ⟨g, 0, none⟩) E E)).setCell ⟨N + 1, 0, none⟩ (.int .i64 0)) D (.deferred none)
          have HZ0 : Hid _ := blk_keep e0 kD (by have := HA3.lo; omega)
          have HZ1 : Hid _ := blk_keep e1 kD (by have := HA3.lo; omega)
          have HCE : Hid (Chg (fun _ => False) w0 _) := (HA3.ch.trans k1 (fun z e => .inr (by have := HNN.out; omega))).trans kD (fun z e => .inr (by have := HA3.lo; have := HNN.out; omega))
          have HOE : Hid (ByO _ w0.heap.size (.slice (some ⟨g, 0, none⟩) E E) (B ++ crc4 B)) := byO_keepI (byO_keepI HOV.out k1 (fun y e => by simp [Value.ownBlock] at e; omega)) kD (fun y e e2 => by
            obtain ⟨cs, t, hcs⟩ := own_cells HOV.out e
            have h9 := HA3.d
            rw [← e2, hcs] at h9
            cases h9)
          clear k0 k1 d0 d1 e0 e1 hbA cA HA3 hg HBY HA2 x4 kD
          go_wp2
          refine ⟨by simp, .inl ⟨_, _, rfl, run_takeDeferred hK, ?_⟩⟩
          have y0 := one0 HZ0.out
          have y1 := one0 HZ1.out
          exact ⟨.tuple #[.slice (some ⟨g, 0, none⟩) E E, .int .i64 0], by simp [results, Tryd.results12, go_sem, y0, y1], .slice (some ⟨g, 0, none⟩) E E, (by rw [HCR.out]), (by rw [HCR.out]; exact HOE.out), HCE.out⟩
    case stop =>
      rintro Ns D cc k W _ hD h1 h2 f
      exact f.elim
end Go.Proofs.YtehfcfpbjenmjaaDoor
