/- What is asked of the index, of the landed one ('indexSpec'); of no statement by itself. -/
import Derived.Test.YtehfcfpbjenmjaaDoorIze
import Derived.Test.YtehfcfpbjenmjaaDoorIzf
import Derived.Test.YtehfcfpbjenmjaaDoorIzk
import Derived.Test.YtehfcfpbjenmjaaDoorIzm
import Derived.Test.YtehfcfpbjenmjaaDoorLay
namespace Go.Proofs.YtehfcfpbjenmjaaDoor
open Go.RowKit
set_option linter.unusedVariables false
set_option linter.unusedSimpArgs false
def ITab (w : World) : Prop := Vint.Tab w ∧ Cq.Tab w
theorem indexSpec : IndexSpec ITab where
  keep := fun h hc => ⟨h.1.new hc, h.2.new hc⟩
  put := fun ad n c l w hT h hn => put23_any ad n c l w hT h hn
  get := fun ad n c bs w hT h hd hc hn hm => get23_any ad n c bs w hT h hd hc hn hm
  size := fun ad n c l w hT h hn => size23_any ad n c l w hT.1 h hn
  places := fun frm ad n c l w _ h hn hf => places23_any frm ad n c l w h hn hf
  find := fun off frm ad n c l w _ hr h0 h1 h hn ho => find23_any off frm ad n c l w hr h0 h1 h hn ho
theorem half_at : ∀ k : Fin 16, tab0[k.val]? = some ((Cq.Crc.itr Cq.Crc.P32 4 k.val : Nat) : Int) := by decide +kernel
theorem itab_of_laid {W : World} (h : Tab W) : ITab W := ⟨fun k hk => by
  rcases k with _ | _ | _ | _ | _ | _ | _ | _ | k
  · exact tab_at1 h rfl
  · exact tab_at1 h rfl
  · exact tab_at1 h rfl
  · exact tab_at1 h rfl
  · exact tab_at1 h rfl
  · exact tab_at1 h rfl
  · exact tab_at1 h rfl
  · exact tab_at1 h rfl
  · omega, fun k hk => tab_at0 h (half_at ⟨k, hk⟩)⟩
end Go.Proofs.YtehfcfpbjenmjaaDoor
