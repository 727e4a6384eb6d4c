/- All that is asked of the program's windows is true of the landed ones; of no statement by itself. -/
import Derived.Test.YtlnocjicmofjfaaDoorXh
namespace Go.Proofs.YtlnocjicmofjfaaDoor
open Go.RowKit
set_option linter.unusedVariables false

theorem winSpec : WinSpec Win where
  lt := fun ⟨_, h⟩ z f => h.lt f
  blk := fun ⟨_, h⟩ => ⟨_, h.blk⟩
  ring := fun ⟨_, h⟩ g e => owns_blk h.own e
  keep := fun ⟨ring, h⟩ hc hS => ⟨ring, h.keep hc hS⟩
  down := fun ⟨ring, h⟩ hB => ⟨ring, ⟨Nat.le_trans hB h.hr, h.blk, owns_base h.own hB, h.ok, h.n1, h.n2, h.dig⟩⟩
  nn := fun ⟨_, h⟩ => ⟨h.n1, h.n2, h.dig⟩
  newOut := wnew_out
  newIn := wnew_in
  full := wfull_q -- 26
  pos := wpos_q -- 25
  last := wlast_any' -- 28
  put := wput_any
  copy := wcopy_any
end Go.Proofs.YtlnocjicmofjfaaDoor
