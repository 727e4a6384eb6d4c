/- What is asked of the program's states holds; of no statement by itself. -/
import Derived.Test.YtkochonjfjlhpaaDoorVe
import Derived.Test.YtkochonjfjlhpaaDoorVg
import Derived.Test.YtkochonjfjlhpaaDoorVj
namespace Go.Proofs.YtkochonjfjlhpaaDoor
open Go.RowKit
open St12
set_option linter.unusedVariables false

theorem stSpec : StSpec Tab where
  keep := tab_keep
  new := fun w _ => tnew_q w
  next := fun s y w hT hs hy => tnext_any s.n s.a s.b s.c s.d y.k y.y y.l y.d hs hy w hT
  lit := fun s w _ hs => tlit_q s hs w
  slot := fun d w _ hd => tslot_q d hd w
  range := fun i w _ hi => trange_q i hi w -- 9
  pb := fun p w _ hp => tpb_q p.lc p.lp p.pb hp.lc hp.lp hp.pb w
  bp := fun b w _ hb => tbp_any b hb w -- 13
end Go.Proofs.YtkochonjfjlhpaaDoor
