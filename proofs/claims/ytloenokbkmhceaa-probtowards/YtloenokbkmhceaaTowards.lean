/- The walk through ProbTowards; of no statement by itself. -/
import Derived.Test.YtloenokbkmhceaaFixed
namespace Go.Proofs.Ytloenokbkmhceaa
open Go.RowKit
set_option linter.unusedVariables false

set_option maxHeartbeats 4000000 in
set_option maxRecDepth 100000 in
theorem towards_in (p q r : Int) (w : World) (hp1 : 0 ≤ p) (hp2 : p ≤ 2047) (hq1 : 0 ≤ q) (hq2 : q ≤ 2047) (hr1 : 0 ≤ r) (hr2 : r ≤ 4294967295) : Calls Try.prog 3 #[.int .i64 p, .int .i64 q, .int .u32 r] w fun e w' => e = .returned (.bool true) ∧ Chg (fun _ => False) w w' := by
  by_cases hpq : q < p
  · go_enter Try.func3, Try.ntmps3
    have e1 : q ≤ Prob.nx q 0 := by rw [Prob.nx0 (by omega) (by omega)]; exact Prob.up_ge (by omega)
    have e2 : Prob.nx q 1 ≤ q := by rw [Prob.nx1 (by decide) (by omega) (by omega)]; exact Prob.dn_ge (by omega)
    have e3 : Prob.nx q 0 ≤ Prob.nx p 0 := by rw [Prob.nx0 (by omega) (by omega), Prob.nx0 (by omega) (by omega)]; exact Prob.up_le (by omega)
    have e4 : Prob.nx q 1 ≤ Prob.nx p 1 := by rw [Prob.nx1 (by decide) (by omega) (by omega), Prob.nx1 (by decide) (by omega) (by omega)]; exact Prob.dn_le (by omega)
    have e5 : Prob.co p 0 ≤ Prob.co q 0 := by rw [Prob.co0 (by omega) (by omega), Prob.co0 (by omega) (by omega)]; exact Prob.cost_le (by omega) (by omega) (by omega)
    have e6 : Prob.co q 1 ≤ Prob.co p 1 := by rw [Prob.co1 (by decide) (by omega) (by omega), Prob.co1 (by decide) (by omega) (by omega)]; exact Prob.cost_le (by omega) (by omega) (by omega)
    have e7 : Prob.co q 1 = Prob.co (2047 - q) 0 := by rw [Prob.co1 (by decide) (by omega) (by omega), Prob.co0 (by omega) (by omega)]
    have e8 : Prob.bo r q ≤ Prob.bo r p := Prob.bo_le hr1 (by omega) (by omega) (by omega)
    have e9 : Prob.bo r p ≤ r := (Prob.bo_in r p hr1).2
    have E7 : Hid (Prob.co q 1 = Prob.co (2047 - q) 0) := e7
    clear e7
    go_wp2_with fail
    refine (next_any q 0 _ ⟨by omega, by omega⟩).mono ?_
    rintro e w1 ⟨rfl, rfl⟩
    go_wp2_with fail
    refine (next_any q 1 _ ⟨by omega, by omega⟩).mono ?_
    rintro e w1 ⟨rfl, rfl⟩
    go_wp2_with fail
    refine (next_any q 0 _ ⟨by omega, by omega⟩).mono ?_
    rintro e w1 ⟨rfl, rfl⟩
    go_wp2_with fail
    refine (next_any p 0 _ ⟨by omega, by omega⟩).mono ?_
    rintro e w1 ⟨rfl, rfl⟩
    go_wp2_with fail
    refine (next_any q 1 _ ⟨by omega, by omega⟩).mono ?_
    rintro e w1 ⟨rfl, rfl⟩
    go_wp2_with fail
    refine (next_any p 1 _ ⟨by omega, by omega⟩).mono ?_
    rintro e w1 ⟨rfl, rfl⟩
    go_wp2_with fail
    refine (cost_any q 0 _ ⟨by omega, by omega⟩).mono ?_
    rintro e w1 ⟨rfl, rfl⟩
    go_wp2_with fail
    refine (cost_any p 0 _ ⟨by omega, by omega⟩).mono ?_
    rintro e w1 ⟨rfl, rfl⟩
    go_wp2_with fail
    refine (cost_any q 1 _ ⟨by omega, by omega⟩).mono ?_
    rintro e w1 ⟨rfl, rfl⟩
    go_wp2_with fail
    refine (cost_any p 1 _ ⟨by omega, by omega⟩).mono ?_
    rintro e w1 ⟨rfl, rfl⟩
    go_wp2_with fail
    refine (cost_any q 1 _ ⟨by omega, by omega⟩).mono ?_
    rintro e w1 ⟨rfl, rfl⟩
    go_wp2_with fail
    refine (cost_any (2047 - q) 0 _ ⟨by omega, by omega⟩).mono ?_
    rintro e w1 ⟨rfl, rfl⟩
    rw [← E7.out]
    go_wp2_with fail
    refine (bound_any r q _ ⟨hr1, hr2⟩ ⟨by omega, by omega⟩).mono ?_
    rintro e w1 ⟨rfl, rfl⟩
    go_wp2_with fail
    refine (bound_any r p _ ⟨hr1, hr2⟩ ⟨by omega, by omega⟩).mono ?_
    rintro e w1 ⟨rfl, rfl⟩
    go_wp2_with fail
    refine (bound_any r p _ ⟨hr1, hr2⟩ ⟨by omega, by omega⟩).mono ?_
    rintro e w1 ⟨rfl, rfl⟩
    go_wp2_with fail
    refine (fixed_any _).mono ?_
    rintro e w1 ⟨rfl, c1⟩
    go_wp2
    go_ret
    exact ⟨rfl, c1⟩
  · have hpq : p ≤ q := by omega
    go_enter Try.func3, Try.ntmps3
    have e1 : p ≤ Prob.nx p 0 := by rw [Prob.nx0 (by omega) (by omega)]; exact Prob.up_ge (by omega)
    have e2 : Prob.nx p 1 ≤ p := by rw [Prob.nx1 (by decide) (by omega) (by omega)]; exact Prob.dn_ge (by omega)
    have e3 : Prob.nx p 0 ≤ Prob.nx q 0 := by rw [Prob.nx0 (by omega) (by omega), Prob.nx0 (by omega) (by omega)]; exact Prob.up_le (by omega)
    have e4 : Prob.nx p 1 ≤ Prob.nx q 1 := by rw [Prob.nx1 (by decide) (by omega) (by omega), Prob.nx1 (by decide) (by omega) (by omega)]; exact Prob.dn_le (by omega)
    have e5 : Prob.co q 0 ≤ Prob.co p 0 := by rw [Prob.co0 (by omega) (by omega), Prob.co0 (by omega) (by omega)]; exact Prob.cost_le (by omega) (by omega) (by omega)
    have e6 : Prob.co p 1 ≤ Prob.co q 1 := by rw [Prob.co1 (by decide) (by omega) (by omega), Prob.co1 (by decide) (by omega) (by omega)]; exact Prob.cost_le (by omega) (by omega) (by omega)
    have e7 : Prob.co p 1 = Prob.co (2047 - p) 0 := by rw [Prob.co1 (by decide) (by omega) (by omega), Prob.co0 (by omega) (by omega)]
    have e8 : Prob.bo r p ≤ Prob.bo r q := Prob.bo_le hr1 (by omega) (by omega) (by omega)
    have e9 : Prob.bo r q ≤ r := (Prob.bo_in r q hr1).2
    have E7 : Hid (Prob.co p 1 = Prob.co (2047 - p) 0) := e7
    clear e7
    go_wp2_with fail
    refine (next_any p 0 _ ⟨by omega, by omega⟩).mono ?_
    rintro e w1 ⟨rfl, rfl⟩
    go_wp2_with fail
    refine (next_any p 1 _ ⟨by omega, by omega⟩).mono ?_
    rintro e w1 ⟨rfl, rfl⟩
    go_wp2_with fail
    refine (next_any p 0 _ ⟨by omega, by omega⟩).mono ?_
    rintro e w1 ⟨rfl, rfl⟩
    go_wp2_with fail
    refine (next_any q 0 _ ⟨by omega, by omega⟩).mono ?_
    rintro e w1 ⟨rfl, rfl⟩
    go_wp2_with fail
    refine (next_any p 1 _ ⟨by omega, by omega⟩).mono ?_
    rintro e w1 ⟨rfl, rfl⟩
    go_wp2_with fail
    refine (next_any q 1 _ ⟨by omega, by omega⟩).mono ?_
    rintro e w1 ⟨rfl, rfl⟩
    go_wp2_with fail
    refine (cost_any p 0 _ ⟨by omega, by omega⟩).mono ?_
    rintro e w1 ⟨rfl, rfl⟩
    go_wp2_with fail
    refine (cost_any q 0 _ ⟨by omega, by omega⟩).mono ?_
    rintro e w1 ⟨rfl, rfl⟩
    go_wp2_with fail
    refine (cost_any p 1 _ ⟨by omega, by omega⟩).mono ?_
    rintro e w1 ⟨rfl, rfl⟩
    go_wp2_with fail
    refine (cost_any q 1 _ ⟨by omega, by omega⟩).mono ?_
    rintro e w1 ⟨rfl, rfl⟩
    go_wp2_with fail
    refine (cost_any p 1 _ ⟨by omega, by omega⟩).mono ?_
    rintro e w1 ⟨rfl, rfl⟩
    go_wp2_with fail
    refine (cost_any (2047 - p) 0 _ ⟨by omega, by omega⟩).mono ?_
    rintro e w1 ⟨rfl, rfl⟩
    rw [← E7.out]
    go_wp2_with fail
    refine (bound_any r p _ ⟨hr1, hr2⟩ ⟨by omega, by omega⟩).mono ?_
    rintro e w1 ⟨rfl, rfl⟩
    go_wp2_with fail
    refine (bound_any r q _ ⟨hr1, hr2⟩ ⟨by omega, by omega⟩).mono ?_
    rintro e w1 ⟨rfl, rfl⟩
    go_wp2_with fail
    refine (bound_any r q _ ⟨hr1, hr2⟩ ⟨by omega, by omega⟩).mono ?_
    rintro e w1 ⟨rfl, rfl⟩
    go_wp2_with fail
    refine (fixed_any _).mono ?_
    rintro e w1 ⟨rfl, c1⟩
    go_wp2
    go_ret
    exact ⟨rfl, c1⟩

set_option maxHeartbeats 4000000 in
set_option maxRecDepth 100000 in
theorem towards_out (p q r : Int) (w : World) (h : p < 0 ∨ 2047 < p ∨ q < 0 ∨ 2047 < q) : Calls Try.prog 3 #[.int .i64 p, .int .i64 q, .int .u32 r] w fun e w' => e = .returned (.bool true) ∧ Chg (fun _ => False) w w' := by
  by_cases h1 : p < 0
  · go_enter Try.func3, Try.ntmps3
    go_wp2_with fail
    refine (fixed_any _).mono ?_
    rintro e w1 ⟨rfl, c1⟩
    go_wp2
    go_ret
    exact ⟨rfl, c1⟩
  · have d1 : decide (p < 0) = false := by simp; omega
    by_cases h2 : 2047 < p
    · go_enter Try.func3, Try.ntmps3
      go_wp2_with fail
      refine (fixed_any _).mono ?_
      rintro e w1 ⟨rfl, c1⟩
      go_wp2
      go_ret
      exact ⟨rfl, c1⟩
    · have d2 : decide (2047 < p) = false := by simp; omega
      by_cases h3 : q < 0
      · go_enter Try.func3, Try.ntmps3
        go_wp2_with fail
        refine (fixed_any _).mono ?_
        rintro e w1 ⟨rfl, c1⟩
        go_wp2
        go_ret
        exact ⟨rfl, c1⟩
      · have d3 : decide (q < 0) = false := by simp; omega
        have h4 : 2047 < q := by omega
        go_enter Try.func3, Try.ntmps3
        go_wp2_with fail
        refine (fixed_any _).mono ?_
        rintro e w1 ⟨rfl, c1⟩
        go_wp2
        go_ret
        exact ⟨rfl, c1⟩

theorem towards_any (p q r : Int) (w : World) (hr : U32 r) : Calls Try.prog 3 #[.int .i64 p, .int .i64 q, .int .u32 r] w fun e w' => e = .returned (.bool true) ∧ Chg (fun _ => False) w w' := by
  by_cases h : p < 0 ∨ 2047 < p ∨ q < 0 ∨ 2047 < q
  · exact towards_out p q r w h
  · exact towards_in p q r w (by omega) (by omega) (by omega) (by omega) hr.1 hr.2
end Go.Proofs.Ytloenokbkmhceaa
