/- What is asked of symbol, of the seat's own package; of no statement by itself. -/
import Derived.Test.YtlnocjicmofjfaaDoorZl
import Derived.Test.YtlnocjicmofjfaaDoorVk
import Derived.Test.YtlnocjicmofjfaaDoorXi
namespace Go.Proofs.YtlnocjicmofjfaaDoor
open Go.RowKit
open St12 Sy13
set_option linter.unusedVariables false

theorem tab_above {w0 w w' : World} {S : Nat → Prop} (h0 : Tab w0) (h : Tab w) (hc : Chg S w w') (hS : ∀ z, S z → w0.heap.size ≤ z) : Tab w' := by
  obtain ⟨by0, br0, bh0⟩ := h0
  obtain ⟨cy0, cr0, ch0⟩ := h
  exact ⟨cy0, cr0, blk_keep ch0 hc (fun f => by have k1 := hS _ f; have k2 := lt_of_blk bh0; omega)⟩
theorem spec13 : SymSpec Win Tab := symSpec winSpec stSpec tab_above
end Go.Proofs.YtlnocjicmofjfaaDoor
