/- What is asked of the program's states holds; of no statement by itself. -/
import Derived.Test.YtoeimahlielklaaDoorVe
import Derived.Test.YtoeimahlielklaaDoorVg
import Derived.Test.YtoeimahlielklaaDoorVj
namespace Go.Proofs.YtoeimahlielklaaDoor
open Go.RowKit
open St12
set_option linter.unusedVariables false

theorem stSpec : StSpec Tab where
  keep := tab_keep
  new := fun w _ => tnew_q w
  next := fun s y w hT hs hy => tnext_any s.n s.a s.b s.c s.d y.k y.y y.l y.d hs hy w hT
  slot := fun d w _ hd => tslot_q d hd w -- 25
  range := fun i w _ hi => trange_q i hi w -- 26
end Go.Proofs.YtoeimahlielklaaDoor
