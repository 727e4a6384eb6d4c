/- The program's small questions; of no statement by themselves. -/
import Derived.Test.YtoeimahlielklaaDoorLay
import Derived.Test.YtoeimahlielklaaDoorSc
namespace Go.Proofs.YtoeimahlielklaaDoor
open Go.RowKit
open St12
set_option linter.unusedVariables false
set_option linter.unusedSimpArgs false

theorem isdist_q (d : Int) (w : World) : Calls Tryd.prog 22 #[.int .i64 d] w fun e w' => e = .returned (.bool (decide (okR d))) ∧ w' = w := by
  by_cases h0 : 1 ≤ d
  · have d0 : decide (1 ≤ d) = true := decide_eq_true h0
    have e : decide (okR d) = decide (d ≤ 4294967295) := by unfold okR; simp [h0]
    rw [e]
    go_enter Tryd.func22, Tryd.ntmps22
    go_wp2
    go_ret
    exact ⟨rfl, rfl⟩
  · have d0 : decide (1 ≤ d) = false := decide_eq_false h0
    have e : decide (okR d) = false := decide_eq_false (fun h => h0 h.1)
    rw [e]
    go_enter Tryd.func22, Tryd.ntmps22
    go_wp2
    go_ret
    exact ⟨rfl, rfl⟩
theorem islen_q (n : Int) (w : World) : Calls Tryd.prog 23 #[.int .i64 n] w fun e w' => e = .returned (.bool (decide (2 ≤ n ∧ n ≤ 273))) ∧ w' = w := by
  by_cases h0 : 2 ≤ n
  · have d0 : decide (2 ≤ n) = true := decide_eq_true h0
    have e : decide (2 ≤ n ∧ n ≤ 273) = decide (n ≤ 273) := by simp [h0]
    rw [e]
    go_enter Tryd.func23, Tryd.ntmps23
    go_wp2
    go_ret
    exact ⟨rfl, rfl⟩
  · have d0 : decide (2 ≤ n) = false := decide_eq_false h0
    have e : decide (2 ≤ n ∧ n ≤ 273) = false := decide_eq_false (fun h => h0 h.1)
    rw [e]
    go_enter Tryd.func23, Tryd.ntmps23
    go_wp2
    go_ret
    exact ⟨rfl, rfl⟩
theorem known_q (n : Int) (w : World) : Calls Tryd.prog 16 #[.int .i64 n] w fun e w' => e = .returned (.bool (decide (1 ≤ n ∧ n ≤ 4))) ∧ w' = w := by
  by_cases h0 : 1 ≤ n
  · have d0 : decide (1 ≤ n) = true := decide_eq_true h0
    have e : decide (1 ≤ n ∧ n ≤ 4) = decide (n ≤ 4) := by simp [h0]
    rw [e]
    go_enter Tryd.func16, Tryd.ntmps16
    go_wp2
    go_ret
    exact ⟨rfl, rfl⟩
  · have d0 : decide (1 ≤ n) = false := decide_eq_false h0
    have e : decide (1 ≤ n ∧ n ≤ 4) = false := decide_eq_false (fun h => h0 h.1)
    rw [e]
    go_enter Tryd.func16, Tryd.ntmps16
    go_wp2
    go_ret
    exact ⟨rfl, rfl⟩
theorem tnew_q (w : World) : Calls Tryd.prog 9 #[] w fun e w' => e = .returned (stv st0) ∧ Chg (fun _ => False) w w' := by
  have cB := chg_one w (.cells #[.int .i64 0, .int .i64 1, .int .i64 1, .int .i64 1, .int .i64 1] 36)
  obtain ⟨k0, k1, k2, k3, k4⟩ := cells5 (heap_alloc_last w (.cells #[.int .i64 0, .int .i64 1, .int .i64 1, .int .i64 1, .int .i64 1] 36))
  go_enter Tryd.func9, Tryd.ntmps9
  go_wp2
  refine bodyPost_ret (v := stv st0) (by simp [results, Tryd.results9, go_sem, k0, k1, k2, k3, k4, stv, st0]) rfl ?_
  exact ⟨rfl, cB⟩
end Go.Proofs.YtoeimahlielklaaDoor
