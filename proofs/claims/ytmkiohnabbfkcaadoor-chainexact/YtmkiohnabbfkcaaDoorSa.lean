/- The document's states; of no statement by itself. -/
import Derived.Test.YtmkiohnabbfkcaaDoorSv
namespace Go.Proofs.YtmkiohnabbfkcaaDoor
open Go.RowKit
open St12
set_option linter.unusedVariables false
set_option linter.unusedSimpArgs false

theorem pow_int (k : Nat) : (2 : Int) ^ k = ((2 ^ k : Nat) : Int) := by simp
end Go.Proofs.YtmkiohnabbfkcaaDoor
