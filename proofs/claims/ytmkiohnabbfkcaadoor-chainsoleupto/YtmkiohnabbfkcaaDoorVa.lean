/- The program's small questions; of no statement by themselves. -/
import Derived.Test.YtmkiohnabbfkcaaDoorLay
import Derived.Test.YtmkiohnabbfkcaaDoorSc
namespace Go.Proofs.YtmkiohnabbfkcaaDoor
open Go.RowKit
open St12
set_option linter.unusedVariables false
set_option linter.unusedSimpArgs false

end Go.Proofs.YtmkiohnabbfkcaaDoor
