/- The small functions of the landed frame: kinds and sizes that are read; of no statement by themselves. -/
import Derived.Test.YtikokgngkagieaaDoorFrm
namespace Go.Proofs.YtikokgngkagieaaDoor
open Go.RowKit
set_option linter.unusedVariables false
set_option linter.unusedSimpArgs false
attribute [local go_sem] Oper.semAt_some
theorem flg_len (k : Int) : (flg k).length = 2 := by unfold flg; split <;> rfl
theorem flg_dig {k : Nat} (h : k < 256) : Rc.Dig (flg (k : Int)) := by
  unfold flg
  split
  · intro x hx
    simp at hx
    omega
  · intro x hx
    simp at hx
    omega
/-- Are these the flags of a kind that is read? -/
def fok (a b : Nat) : Bool := decide (a = 0) && Fr24.kind (b : Int)
set_option maxHeartbeats 8000000 in
set_option maxRecDepth 100000 in
theorem kindOf_any (a b : Nat) (ha : a < 256) (hb : b < 256) (w : World) : Calls Tryd.prog 28 #[ab [a, b]] w fun e w' => e = .returned (.tuple #[.int .i64 (if fok a b = true then (b : Int) else 0), .bool (fok a b)]) ∧ Chg (fun _ => False) w w' := by
  obtain ⟨N, hN⟩ : ∃ N, w.heap.size = N := ⟨_, rfl⟩
  obtain ⟨W0, hW0⟩ : ∃ W0, w.alloc (.cells (abA [a, b]) 53) = W0 := ⟨_, rfl⟩
  have HW0 : Hid (W0.heap[N]? = some (.cells (abA [a, b]) 53 (0, 0)) ∧ Chg (fun _ => False) w W0) := by
    rw [← hW0, ← hN]
    exact ⟨heap_alloc_last _ _, chg_one _ _⟩
  have HNN : Hid (w.heap.size = N) := hN
  have q1 : W0.cell? ⟨N, 1, none⟩ = some (.int .u8 (b : Int)) := by
    rw [cell_of_row _ _ 1 _ _ _ HW0.out.1]
    rfl
  have hbi : (b : Int) < 256 := by omega
  have HK : Hid _ := flagsOf_any (b : Int) W0
  have hi2 : (Tryd.prog.info? 53).map (·.size) = some (abA (flg (b : Int))).size := by rw [abA_size, flg_len]; exact info2x
  by_cases hk : Fr24.kind (b : Int) = true
  · have HF : Hid (flg (b : Int) = [0, b]) := by show _ = _; unfold flg; rw [if_pos hk]; rfl
    have HE : Hid (fok a b = decide ([a, b] = [0, b])) := by
      show _ = _
      unfold fok
      rw [hk, Bool.and_true]
      congr 1
      simp
    rw [HF.out, hk] at HK
    obtain ⟨B, hB⟩ : ∃ B, decide ([a, b] = [0, b]) = B := ⟨_, rfl⟩
    have heq : ∀ w : World, (Op.equalIn 10000 53 (.agg #[.int .u8 (a : Int), .int .u8 (b : Int)]) (.agg #[.int .u8 0, .int .u8 (b : Int)])).run Tryd.prog w = .ok B w := by
      have := eql_ab (t := 53) (n := 2) Tryd.underlying53 (a := [a, b]) (b := [0, b]) (by intro x hx; simp at hx; omega) (by intro x hx; simp at hx; omega) rfl rfl
      rw [hB] at this
      exact this
    rw [hB] at HE
    rw [HE.out]
    show Calls Tryd.prog 28 #[.agg #[.int .u8 (a : Int), .int .u8 (b : Int)]] w _
    clear hk hB
    go_enter Tryd.func28, Tryd.ntmps28
    go_upto_region 1 with fail
    try rw [hN]
    try rw [show w.alloc (.cells #[.int .u8 a, .int .u8 b] 53) = W0 from hW0]
    try rw [show w.alloc (.cells (abA [a, b]) 53) = W0 from hW0]
    clear hW0 hN
    go_wp2_with fail
    refine Calls.mono HK.out ?_
    rintro z w1 ⟨rfl, c1⟩
    have HC1 : Hid (Chg (fun _ => False) w w1) := chg_then HW0.out.2 c1
    have HB1 : Hid (w1.heap[N]? = some (.cells (abA [a, b]) 53 (0, 0))) := blk_keep HW0.out.1 c1 (fun f => f)
    clear c1 HK q1
    go_upto_region 3 with (refine wpList_store_row rfl 53 (.tmp 5) (.tmp 13) rfl w1.heap.size (abA [0, b]) rfl rfl 53 _ (heap_alloc_last _ _) info2x rfl (abA_one _) ?_)
    obtain ⟨W4, hW4⟩ : ∃ W4, (w1.alloc (.cells #[.int .u8 0, .int .u8 0] 53)).setRow w1.heap.size (abA [0, b]) = W4 := ⟨_, rfl⟩
    have HC4 : Hid (Chg (fun _ => False) w W4) := by
      rw [← hW4]
      exact chg_setRowF (chg_then HC1.out (chg_one _ _)) HC1.out.size
    have hB4 : W4.heap[N]? = some (.cells (abA [a, b]) 53 (0, 0)) := by
      rw [← hW4, setRow_other _ _ _ _ (by have := lt_of_blk HB1.out; omega)]
      exact blk_keep HB1.out (chg_one _ _) (fun f => f)
    have hM4 : W4.heap[w1.heap.size]? = some (.cells (abA [0, b]) 53 (0, 0)) := by
      rw [← hW4]
      exact setRow_heap _ _ _ _ _ _ (heap_alloc_last _ _)
    have x0 : W4.cell? ⟨N, 0, none⟩ = some (.int .u8 (a : Int)) := by rw [cell_of_row _ _ 0 _ _ _ hB4]; rfl
    have x1 : W4.cell? ⟨N, 1, none⟩ = some (.int .u8 (b : Int)) := by rw [cell_of_row _ _ 1 _ _ _ hB4]; rfl
    have y0 : W4.cell? ⟨w1.heap.size, 0, none⟩ = some (.int .u8 0) := by rw [cell_of_row _ _ 0 _ _ _ hM4]; rfl
    have y1 : W4.cell? ⟨w1.heap.size, 1, none⟩ = some (.int .u8 (b : Int)) := by rw [cell_of_row _ _ 1 _ _ _ hM4]; rfl
    rw [hW4]
    generalize w1.heap.size = M at *
    clear hW4 hB4 hM4 HB1 HC1
    cases B
    all_goals
      go_wp2
      go_ret2
      exact ⟨rfl, HC4.out⟩
  · have HF : Hid (flg (b : Int) = [0, 0]) := by show _ = _; unfold flg; rw [if_neg hk]
    rw [Bool.not_eq_true] at hk
    have HE : Hid (fok a b = false) := by
      show _ = _
      unfold fok
      rw [hk, Bool.and_false]
    rw [HF.out, hk] at HK
    rw [HE.out]
    show Calls Tryd.prog 28 #[.agg #[.int .u8 (a : Int), .int .u8 (b : Int)]] w _
    clear hk
    go_enter Tryd.func28, Tryd.ntmps28
    go_upto_region 1 with fail
    try rw [hN]
    try rw [show w.alloc (.cells #[.int .u8 a, .int .u8 b] 53) = W0 from hW0]
    clear hW0 hN
    go_wp2_with fail
    refine Calls.mono HK.out ?_
    rintro z w1 ⟨rfl, c1⟩
    have HC1 : Hid (Chg (fun _ => False) w w1) := chg_then HW0.out.2 c1
    clear c1 HK q1
    go_wp2_with (refine wpList_store_row rfl 53 (.tmp 5) (.tmp 13) rfl w1.heap.size (abA [0, 0]) rfl rfl 53 _ (heap_alloc_last _ _) info2x rfl (abA_one _) ?_)
    go_wp2
    go_ret2
    exact ⟨rfl, chg_setRowF (chg_then HC1.out (chg_one _ _)) HC1.out.size⟩
end Go.Proofs.YtikokgngkagieaaDoor
