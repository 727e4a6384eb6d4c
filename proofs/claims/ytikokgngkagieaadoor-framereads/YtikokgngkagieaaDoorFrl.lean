/- The small functions of the landed frame: numbers as bytes, sums, sizes told; of no statement by themselves. -/
import Derived.Test.YtikokgngkagieaaDoorFrk
import Derived.Laws.Cover3
namespace Go.Proofs.YtikokgngkagieaaDoor
open Go.RowKit
set_option linter.unusedVariables false
set_option linter.unusedSimpArgs false
attribute [local go_sem] Oper.semAt_some
theorem lowB4f (M : Nat) : Wire.lowBytes (M : Int) 4 = nums (Cq.Crc.low M 4) := by
  have e2 : Cq.Crc.low M 4 = [M % 256, M / 256 % 256, M / 256 / 256 % 256, M / 256 / 256 / 256 % 256] := rfl
  rw [e2]
  simp [Wire.lowBytes, Wire.byteAt, List.range_succ, nums]
  refine ⟨?_, ?_⟩ <;> omega
theorem arr4 (g n c : Nat) (h : 4 ≤ n) : ∀ w : World, (Instr.arrayAt 57 (.slice (some ⟨g, 0, none⟩) n c)).run Tryd.prog w = .ok (.pointer (some ⟨g, 0, none⟩)) w := fun w => run_arrayAt w _ _ 4 _ _ _ Tryd.underlying57 h
set_option maxHeartbeats 8000000 in
set_option maxRecDepth 100000 in
theorem low24f_any (v : Nat) (hv : v < 4294967296) (w : World) : Calls Tryd.prog 34 #[.int .u32 (v : Int)] w fun e w' => e = .returned (ab (Cq.Crc.low v 4)) ∧ Chg (fun _ => False) w w' := by
  have hvi : (v : Int) < 4294967296 := by omega
  obtain ⟨N, hN⟩ : ∃ N, w.heap.size = N := ⟨_, rfl⟩
  obtain ⟨W0, hW0⟩ : ∃ W0, w.alloc (.cells (abA [0, 0, 0, 0]) 57) = W0 := ⟨_, rfl⟩
  have HW0 : Hid (W0.heap[N]? = some (.cells (abA [0, 0, 0, 0]) 57 (0, 0)) ∧ Chg (fun _ => False) w W0 ∧ W0.heap.size = N + 1) := by
    rw [← hW0, ← hN]
    exact ⟨heap_alloc_last _ _, chg_one _ _, World.size_alloc _ _⟩
  have HNN : Hid (w.heap.size = N) := hN
  have HNW : Hid _ := Wire.newWriter_any W0
  have HLL : Hid (nums (Cq.Crc.low v 4) = Wire.lowBytes (v : Int) 4) := (lowB4f v).symm
  have HB4 : Hid ((Cq.Crc.low v 4).length = 4) := low_len _ _
  go_enter Tryd.func34, Tryd.ntmps34
  go_upto_region 1 with fail
  try rw [hN]
  try rw [show w.alloc (.cells #[.int .u8 0, .int .u8 0, .int .u8 0, .int .u8 0] 57) = W0 from hW0]
  clear hW0 hN
  go_wp2_with fail
  refine Calls.mono HNW.out ?_
  rintro z w1 ⟨rfl, rfl⟩
  have hs1 := HW0.out.2.2
  have HWr : Hid (Wire.Wr (N + 1) (W0.alloc (.cells #[.int .i64 0, .slice none 0 0] 79)) W0.heap.size (.slice none 0 0) []) := Wire.newWr_at (N + 1) W0 (by omega)
  have HLW : Hid _ := Wire.low_yes (N + 1) W0.heap.size (.slice none 0 0) [] (v : Int) 4 (W0.alloc (.cells #[.int .i64 0, .slice none 0 0] 79)) HWr.out (by rw [World.size_alloc]; omega) (by decide) (by decide) (by decide)
  have HC1 : Hid (Chg (fun _ => False) w (W0.alloc (.cells #[.int .i64 0, .slice none 0 0] 79))) := chg_then HW0.out.2.1 (chg_one _ _)
  have HB1 : Hid ((W0.alloc (.cells #[.int .i64 0, .slice none 0 0] 79)).heap[N]? = some (.cells (abA [0, 0, 0, 0]) 57 (0, 0))) := blk_keep HW0.out.1 (chg_one _ _) (fun f => f)
  clear hs1
  go_wp2_with fail
  refine Calls.mono HLW.out ?_
  rintro z w2 ⟨rfl, v2, hr2, c2, m2⟩
  rw [List.nil_append, ← HLL.out] at hr2
  have hft := HWr.out.foot
  have HC2 : Hid (Chg (fun _ => False) w w2) := HC1.out.trans c2 (fun z f => .inr (by have := (hft z f).1; have := HNN.out; omega))
  have HB2 : Hid (w2.heap[N]? = some (.cells (abA [0, 0, 0, 0]) 57 (0, 0))) := blk_keep HB1.out c2 (fun f => by have := (hft N f).1; omega)
  have HBY : Hid _ := Wire.bytes_any (N + 1) W0.heap.size v2 (nums (Cq.Crc.low v 4)) w2 hr2 (by rw [nums_len, HB4.out]; decide)
  rw [nums_len, HB4.out] at HBY
  have ha4 := arr4 w2.heap.size 4 4 (Nat.le_refl _)
  clear c2 m2 hr2 hft HWr HLW HNW HLL
  go_wp2_with fail
  refine Calls.mono HBY.out ?_
  rintro z w3 ⟨rfl, h3, c3⟩
  have HC3 : Hid (Chg (fun _ => False) w w3) := chg_then HC2.out c3
  have HB3 : Hid (w3.heap[N]? = some (.cells (abA [0, 0, 0, 0]) 57 (0, 0))) := blk_keep HB2.out c3 (fun f => f)
  have HR3 : Hid (w3.heap[w2.heap.size]? = some (.cells (abA (Cq.Crc.low v 4)) 5 (0, 0))) := h3
  have hi4 : (Tryd.prog.info? 57).map (·.size) = some (abA (Cq.Crc.low v 4)).size := by rw [abA_size, HB4.out]; exact info4x
  clear c3 h3 HBY
  go_wp2_with (first
    | refine wpList_load_row rfl 57 (.tmp 11) rfl w2.heap.size rfl 5 _ (0, 0) _ HR3.out Tryd.underlying57 rfl hi4 ?_
    | refine wpList_store_row rfl 57 (.tmp 2) (.tmp 12) rfl N (abA (Cq.Crc.low v 4)) rfl rfl 57 _ HB3.out hi4 (by rw [abA_size, abA_size, HB4.out]; rfl) (abA_one _) ?_)
  go_wp2
  refine bodyPost_ret (res16 rfl _ _ (run_loadVar_row _ N 57 57 _ (0, 0) _ (setRow_heap _ _ _ _ _ _ HB3.out) Tryd.underlying57 rfl hi4)) rfl ?_
  exact ⟨rfl, chg_setRowF HC3.out (by have := HNN.out; omega)⟩
end Go.Proofs.YtikokgngkagieaaDoor
