/- The contract of the document's Direct; of no statement by itself. -/
import Derived.Test.YtejopgopcocapaaRefB
namespace Go.Proofs.Ytejopgopcocapaa
open Go.RowKit
set_option linter.unusedVariables false

theorem bit_nat (x j : Nat) : ((x : Int) / 2 ^ j).tmod 2 = ((x / 2 ^ j % 2 : Nat) : Int) := by
  have e : ((x : Int) / 2 ^ j) = ((x / 2 ^ j : Nat) : Int) := by simp
  rw [e]
  generalize x / 2 ^ j = q
  rw [Int.tmod_eq_emod_of_nonneg (Int.natCast_nonneg _)]
  omega

/-- The lowest m bits of x, the highest first. -/
def direct (x : Nat) : Nat → Rc.E → Rc.E
  | 0, e => e
  | m + 1, e => direct x m (Rc.half e (decide (x / 2 ^ m % 2 = 1)))

end Go.Proofs.Ytejopgopcocapaa
