/- What is asked of the program's states holds; of no statement by itself. -/
import Derived.Test.YtlnocjicmofjfaaDoorBoundG
import Derived.Test.YtlnocjicmofjfaaDoorVj
namespace Go.Proofs.YtlnocjicmofjfaaDoor
open Go.RowKit
open St12
set_option linter.unusedVariables false

theorem stSpec : StSpec Tab where
  keep := tab_keep
  new := fun w _ => tnew_q w
  next := fun s y w hT hs hy => tnext_any s.n s.a s.b s.c s.d y.k y.y y.l y.d hs hy w hT
end Go.Proofs.YtlnocjicmofjfaaDoor
