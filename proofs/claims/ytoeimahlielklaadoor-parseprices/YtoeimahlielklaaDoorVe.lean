/- The program's properties of a byte; of no statement by itself. -/
import Derived.Test.YtoeimahlielklaaDoorVd
namespace Go.Proofs.YtoeimahlielklaaDoor
open Go.RowKit
open St12
set_option linter.unusedVariables false
set_option linter.unusedSimpArgs false

end Go.Proofs.YtoeimahlielklaaDoor
