/- Rows of bytes of the call's own; of no statement by themselves. -/
import Derived.Test.YtnedllhlmddmoabDoorLaid
import Derived.Deep.OwnRows
namespace Go.Proofs.YtnedllhlmddmoabDoor
open Go.RowKit

/-- Bytes as cells. -/
def cells8 (xs : List Int) : List Value := xs.map (Value.int .u8)

theorem cells8_append (xs ys : List Int) : cells8 xs ++ cells8 ys = cells8 (xs ++ ys) := by simp [cells8]

theorem oneCells (l : List Int) : ∀ u ∈ cells8 l, u.oneCell' = true := by
  intro u hu
  obtain ⟨x, _, rfl⟩ := List.mem_map.1 hu
  rfl

theorem own_empty (w : World) : (w.alloc (.cells #[] 5)).ownsRow w.heap.size 5 1 (.slice (some ⟨w.heap.size, 0, none⟩) 0 0) 0 (cells8 []) := by
  refine ⟨rfl, .inr ⟨w.heap.size, 0, #[], rfl, Nat.le_refl _, heap_alloc_last w _, Nat.le_refl _, by unfold maxLen; omega, rfl, rfl⟩⟩

theorem own_row8c {w : World} {B : Nat} {v : Value} {n : Nat} {bs : List Int} (h : w.ownsRow B 5 1 v n (cells8 bs)) : ∃ ad c, v = .slice ad n c ∧ Row8 w ad n c bs ∧ n ≤ c := by
  have hl : bs.length = n := by simpa [cells8] using h.1
  rcases h.2 with ⟨rfl, rfl⟩ | ⟨g, cap, cur, rfl, _, _, hnc, _⟩
  · exact ⟨none, 0, rfl, ⟨hl, .inl ⟨rfl, rfl, rfl⟩⟩, Nat.le_refl _⟩
  · exact ⟨_, cap, rfl, ⟨hl, .inr ⟨_, rfl, fun j u hu => h.cells (g := g) rfl j u hu⟩⟩, hnc⟩

theorem row8_one (w : World) (x : Int) (t : TypeId) : Row8 (w.alloc (.cells #[.int .u8 x] t)) (some ⟨w.heap.size, 0, none⟩) 1 1 [x] := row8_new w [x] t (0, 0) 1 1 rfl

theorem own_row8d {w : World} {B : Nat} {v : Value} {n : Nat} {bs : List Int} (h : w.ownsRow B 5 1 v n (cells8 bs)) : ∃ ad c, v = .slice ad n c ∧ Row8 w ad n c bs ∧ n ≤ c ∧ ∀ y, ad = some y → B ≤ y.block := by
  have hl : bs.length = n := by simpa [cells8] using h.1
  rcases h.2 with ⟨rfl, rfl⟩ | ⟨g, cap, cur, rfl, hB, _, hnc, _⟩
  · exact ⟨none, 0, rfl, ⟨hl, .inl ⟨rfl, rfl, rfl⟩⟩, Nat.le_refl _, fun y e => by cases e⟩
  · exact ⟨_, cap, rfl, ⟨hl, .inr ⟨_, rfl, fun j u hu => h.cells (g := g) rfl j u hu⟩⟩, hnc, fun y e => by cases e; exact hB⟩
end Go.Proofs.YtnedllhlmddmoabDoor
