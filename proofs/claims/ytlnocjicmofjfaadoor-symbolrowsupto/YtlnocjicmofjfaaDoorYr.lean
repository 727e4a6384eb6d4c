/- The document's sizes and distances; of no statement by itself. -/
import Derived.Test.YtlnocjicmofjfaaDoorYs
namespace Go.Proofs.YtlnocjicmofjfaaDoor
open Go.RowKit
open St12 Sy13
set_option linter.unusedVariables false
set_option linter.unusedSimpArgs false

set_option maxHeartbeats 1000000 in
theorem rsize_q (k yb yl yd : Int) (hy : (⟨k, yb, yl, yd⟩ : Sym).I) (w : World) : Calls Tryd.prog 35 #[.agg #[.int .i64 k, .int .u8 yb, .int .i64 yl, .int .i64 yd]] w fun e w' => e = .returned (.int .i64 (sizeA ⟨k, yb, yl, yd⟩)) ∧ Chg (fun _ => False) w w' := by
  have cB := chg_one w (.cells #[.int .i64 k, .int .u8 yb, .int .i64 yl, .int .i64 yd] 33)
  have hbk := heap_alloc_last w (.cells #[.int .i64 k, .int .u8 yb, .int .i64 yl, .int .i64 yd] 33)
  have HA : Hid _ := rformed_q k yb yl yd hy.k hy.l hy.d (w.alloc (.cells #[.int .i64 k, .int .u8 yb, .int .i64 yl, .int .i64 yd] 33))
  by_cases hf : formed ⟨k, yb, yl, yd⟩ = 0
  · rw [hf] at HA
    have hk := formed_kind hf
    have e : sizeA ⟨k, yb, yl, yd⟩ = if k = 2 ∨ k = 3 then yl else 1 := by unfold sizeA; rw [if_neg (by simp [hf])]
    rw [e]
    simp only at hk
    clear e hf
    go_enter Tryd.func35, Tryd.ntmps35
    go_wp2_with fail
    refine Calls.mono HA.out ?_
    rintro z w2 ⟨rfl, c2⟩
    obtain ⟨k0, k1, k2, k3⟩ := cells4y (blk_keep hbk c2 (fun f => f))
    have HC : Hid (Chg (fun _ => False) w w2) := chg_then cB c2
    clear HA c2 hbk cB
    rcases hk with rfl | ⟨rfl, _, _, _, _⟩ | ⟨rfl, _, _, _, _⟩ | rfl
    · go_wp2
      go_ret
      exact ⟨rfl, HC.out⟩
    · go_wp2
      go_ret
      exact ⟨rfl, HC.out⟩
    · go_wp2
      go_ret
      exact ⟨rfl, HC.out⟩
    · go_wp2
      go_ret
      exact ⟨rfl, HC.out⟩
  · obtain ⟨fe, hfe⟩ : ∃ fe, formed ⟨k, yb, yl, yd⟩ = fe := ⟨_, rfl⟩
    have HE : Hid (sizeA ⟨k, yb, yl, yd⟩ = 0) := by show _ = _; unfold sizeA; rw [if_pos hf]
    rw [hfe] at HA hf
    have e0 : (fe == 0) = false := by rw [beq_eq_false_iff_ne]; exact hf
    have e0' : (fe != 0) = true := by simp [hf]
    have e0'' : decide (fe = 0) = false := decide_eq_false hf
    clear hfe
    go_enter Tryd.func35, Tryd.ntmps35
    go_wp2_with fail
    refine Calls.mono HA.out ?_
    rintro z w2 ⟨rfl, c2⟩
    have HC : Hid (Chg (fun _ => False) w w2) := chg_then cB c2
    clear HA c2 hbk cB
    go_wp2
    go_ret
    exact ⟨by rw [HE.out]; rfl, HC.out⟩
set_option maxHeartbeats 2000000 in
theorem rdist_q (n a b c d k yb yl yd : Int) (hf : formed ⟨k, yb, yl, yd⟩ = 0) (hk1 : k ≠ 1) (w : World) : Calls Tryd.prog 47 #[.agg #[.int .i64 n, .int .i64 a, .int .i64 b, .int .i64 c, .int .i64 d], .agg #[.int .i64 k, .int .u8 yb, .int .i64 yl, .int .i64 yd]] w fun e w' => e = .returned (.int .i64 (distS ⟨n, a, b, c, d⟩ ⟨k, yb, yl, yd⟩)) ∧ Chg (fun _ => False) w w' := by
  have hk := formed_kind hf
  simp only at hk
  clear hf
  rcases hk with rfl | ⟨rfl, h1, h2, h3, h4⟩ | ⟨rfl, h1, h2, h3, h4⟩ | rfl
  · exact absurd rfl hk1
  · go_enter Tryd.func47, Tryd.ntmps47
    go_wp2
    go_ret
    exact ⟨rfl, chg_then (chg_one _ _) (chg_one _ _)⟩
  · have hyd : yd = 0 ∨ yd = 1 ∨ yd = 2 ∨ yd = 3 := by omega
    clear h3 h4
    rcases hyd with rfl | rfl | rfl | rfl
    · go_enter Tryd.func47, Tryd.ntmps47
      go_wp2
      go_ret
      exact ⟨rfl, chg_then (chg_one _ _) (chg_one _ _)⟩
    · go_enter Tryd.func47, Tryd.ntmps47
      go_wp2
      go_ret
      exact ⟨rfl, chg_then (chg_one _ _) (chg_one _ _)⟩
    · go_enter Tryd.func47, Tryd.ntmps47
      go_wp2
      go_ret
      exact ⟨rfl, chg_then (chg_one _ _) (chg_one _ _)⟩
    · go_enter Tryd.func47, Tryd.ntmps47
      go_wp2
      go_ret
      exact ⟨rfl, chg_then (chg_one _ _) (chg_one _ _)⟩
  · go_enter Tryd.func47, Tryd.ntmps47
    go_wp2
    go_ret
    exact ⟨rfl, chg_then (chg_one _ _) (chg_one _ _)⟩
set_option maxHeartbeats 1000000 in
theorem ofref_q (n a b c d : Int) (w : World) : Calls Tryd.prog 21 #[.agg #[.int .i64 n, .int .i64 a, .int .i64 b, .int .i64 c, .int .i64 d]] w fun e w' => e = .returned (.agg #[.int .i64 n, .int .i64 a, .int .i64 b, .int .i64 c, .int .i64 d]) ∧ Chg (fun _ => False) w w' := by
  have hl := heap_alloc_last (w.alloc (.cells #[.int .i64 n, .int .i64 a, .int .i64 b, .int .i64 c, .int .i64 d] 52)) (.cells #[.int .i64 n, .int .i64 a, .int .i64 b, .int .i64 c, .int .i64 d] 30)
  rw [World.size_alloc] at hl
  obtain ⟨k0, k1, k2, k3, k4⟩ := cells5 hl
  clear hl
  go_enter Tryd.func21, Tryd.ntmps21
  go_wp2
  refine bodyPost_ret (v := .agg #[.int .i64 n, .int .i64 a, .int .i64 b, .int .i64 c, .int .i64 d]) (by simp [results, Tryd.results21, go_sem, k0, k1, k2, k3, k4]) rfl ?_
  exact ⟨rfl, chg_then (chg_one _ _) (chg_one _ _)⟩
set_option maxHeartbeats 1000000 in
theorem alike_q (n a b c d : Int) (w : World) : Calls Tryd.prog 23 #[.agg #[.int .i64 n, .int .i64 a, .int .i64 b, .int .i64 c, .int .i64 d], .agg #[.int .i64 n, .int .i64 a, .int .i64 b, .int .i64 c, .int .i64 d]] w fun e w' => e = .returned (.bool true) ∧ Chg (fun _ => False) w w' := by
  have hq := same4
  go_enter Tryd.func23, Tryd.ntmps23
  go_wp2
  go_ret
  exact ⟨rfl, chg_then (chg_one _ _) (chg_one _ _)⟩
set_option maxHeartbeats 1000000 in
theorem rnew12_q (w : World) : Calls Tryd.prog 53 #[] w fun e w' => e = .returned (stv st0) ∧ Chg (fun _ => False) w w' := by
  have cB := chg_one w (.cells #[.int .i64 0, .int .i64 1, .int .i64 1, .int .i64 1, .int .i64 1] 52)
  obtain ⟨k0, k1, k2, k3, k4⟩ := cells5 (heap_alloc_last w (.cells #[.int .i64 0, .int .i64 1, .int .i64 1, .int .i64 1, .int .i64 1] 52))
  go_enter Tryd.func53, Tryd.ntmps53
  go_wp2
  refine bodyPost_ret (v := stv st0) (by simp [results, Tryd.results53, go_sem, k0, k1, k2, k3, k4, stv, st0]) rfl ?_
  exact ⟨rfl, cB⟩
end Go.Proofs.YtlnocjicmofjfaaDoor
