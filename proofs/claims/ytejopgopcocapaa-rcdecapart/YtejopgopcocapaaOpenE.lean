/- A list of questions is no longer than its room; of no statement by itself. -/
import Derived.Test.YtejopgopcocapaaOpenD
namespace Go.Proofs.Ytejopgopcocapaa
open Go.ChangeShapes Go.WideShapes Go.ChangeAt Go.RowKit
theorem asks_cap {H : Type} {enc : TypeId × Value → H} {W : World} {a : Option Addr} {len cap : Nat} {d : DataW H} {p : List MemPlace}
    (h : DataW.Trod enc Try.prog W 0 (fun _ => true) true 23 (.slice a len cap) d p) : len ≤ cap := by
  obtain ⟨fuel, hf⟩ := h
  rcases Deep.open_slice Try.underlying23 hf with ⟨hcs, _⟩ | ⟨x, len', cap', m, n, D, Pl, hcs, _, hl, _⟩
  · simp [Value.cells] at hcs
    omega
  · simp [Value.cells] at hcs
    omega
end Go.Proofs.Ytejopgopcocapaa
