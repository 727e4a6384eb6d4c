/- The program's small questions; of no statement by themselves. -/
import Derived.Test.YtannepoclpmedaaDoorLay
import Derived.Test.YtannepoclpmedaaDoorSc
namespace Go.Proofs.YtannepoclpmedaaDoor
open Go.RowKit
open St12
set_option linter.unusedVariables false
set_option linter.unusedSimpArgs false

end Go.Proofs.YtannepoclpmedaaDoor
