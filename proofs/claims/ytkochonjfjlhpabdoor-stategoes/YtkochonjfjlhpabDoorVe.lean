/- The program's properties of a byte; of no statement by itself. -/
import Derived.Test.YtkochonjfjlhpabDoorVd
namespace Go.Proofs.YtkochonjfjlhpabDoor
open Go.RowKit
open St12
set_option linter.unusedVariables false
set_option linter.unusedSimpArgs false

end Go.Proofs.YtkochonjfjlhpabDoor
