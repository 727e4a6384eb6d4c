/- The program's slots; of no statement by itself. -/
import Derived.Test.YtkochonjfjlhpabDoorVa
import Derived.Test.YtkochonjfjlhpabDoorSn
import Derived.Test.YtkochonjfjlhpabDoorSa
namespace Go.Proofs.YtkochonjfjlhpabDoor
open Go.RowKit
open St12
set_option linter.unusedVariables false
set_option linter.unusedSimpArgs false

theorem wrap_low (n : Nat) {bt : Nat} (hb : bt ≤ 30) : wrap64 ((2 + (n : Int) % 2) * 2 ^ bt) = (((2 + n % 2) * 2 ^ bt : Nat) : Int) := by
  have hp : 2 ^ bt ≤ 1073741824 := by
    have := Nat.pow_le_pow_right (n := 2) (by omega) hb
    simpa using this
  rw [pow_int]
  generalize 2 ^ bt = P at *
  have h2 : (n : Int) % 2 = ((n % 2 : Nat) : Int) := by omega
  rw [h2]
  have h3 : n % 2 < 2 := Nat.mod_lt _ (by omega)
  generalize n % 2 = c at *
  have h4 : (2 + (c : Int)) * (P : Int) = (((2 + c) * P : Nat) : Int) := by simp
  have h5 : (2 + c) * P ≤ 3 * P := Nat.mul_le_mul_right _ (by omega)
  rw [h4]
  generalize (2 + c) * P = Q at *
  unfold wrap64
  omega
end Go.Proofs.YtkochonjfjlhpabDoor
