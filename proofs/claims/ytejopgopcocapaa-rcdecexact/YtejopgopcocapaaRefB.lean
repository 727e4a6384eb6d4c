/- The contracts of the document's cut, Bit, Direct, Fork, by the encoder over natural numbers; of no statement by themselves. -/
import Derived.Test.YtejopgopcocapaaRefA
namespace Go.Proofs.Ytejopgopcocapaa
open Go.RowKit
set_option linter.unusedVariables false

theorem foot_then {w w1 w2 : World} {r : Nat} {v v1 : Value} (h : Chg (Foot r v) w w1) (hm : Moved w v v1) (h2 : Chg (Foot r v1) w1 w2) : Chg (Foot r v) w w2 := h.trans h2 (fun i e => hm.foot r i e)

end Go.Proofs.Ytejopgopcocapaa
