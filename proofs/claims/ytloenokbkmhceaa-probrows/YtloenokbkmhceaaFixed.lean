/- What the document fixes holds: the contract of fixed; of no statement by itself. -/
import Derived.Test.YtloenokbkmhceaaNew
namespace Go.Proofs.Ytloenokbkmhceaa
open Go.RowKit
set_option linter.unusedVariables false

theorem fx1 : Prob.nx 1024 0 = 1056 := by decide +kernel
theorem fx2 : Prob.co 1024 0 = 16 := by decide +kernel
theorem fx3 : Prob.bo 2048 5 = 5 := by decide +kernel
theorem fx4 : (List.replicate 2 (1024 : Int)).set 1 (Prob.nx (List.replicate 2 (1024 : Int))[1] 0) = [1024, 1056] := by rw [show (List.replicate 2 (1024 : Int))[1] = 1024 from rfl, fx1]; rfl
theorem in2 : In [1024, 1056] := fun p hp => by simp at hp; omega
theorem i64_lit {p : Int} (h : 0 ≤ p) (h2 : p ≤ 2047) : I64 p := ⟨by omega, by omega⟩

set_option maxHeartbeats 2000000 in
set_option maxRecDepth 100000 in
theorem fixed_any (w : World) : Calls Try.prog 7 #[] w fun e w' => e = .returned (.bool true) ∧ Chg (fun _ => False) w w' := by
  go_enter Try.func7, Try.ntmps7
  go_wp2_with fail
  refine (new_in 2 _ (by omega)).mono ?_
  rintro e w1 ⟨a, v, rfl, ha, h1, c1⟩
  go_wp2_with fail
  refine (turn_in _ a v _ 1 0 _ h1 (In.half 2) (by simp)).mono ?_
  rintro e w2 ⟨rfl, h2, c2⟩
  have HC : Hid (Chg (fun _ => False) w w2) := c1.trans c2 (fun i e => .inr (h1.own.lt i e).1)
  rw [fx4] at h2
  clear c1 c2 h1
  go_wp2_with fail
  refine (at_in _ a v _ 1 _ h2 in2 (by simp)).mono ?_
  rintro e w3 ⟨rfl, rfl⟩
  go_wp2_with fail
  refine (len_any _ a v _ _ h2).mono ?_
  rintro e w3 ⟨rfl, rfl⟩
  go_wp2_with fail
  refine (cost_any 1024 0 _ (i64_lit (by omega) (by omega))).mono ?_
  rintro e w3 ⟨rfl, rfl⟩
  rw [fx2]
  go_wp2_with fail
  refine (bound_any 2048 5 _ ⟨by omega, by omega⟩ (i64_lit (by omega) (by omega))).mono ?_
  rintro e w3 ⟨rfl, rfl⟩
  rw [fx3]
  go_wp2
  go_ret
  exact ⟨rfl, HC.out⟩
end Go.Proofs.Ytloenokbkmhceaa
