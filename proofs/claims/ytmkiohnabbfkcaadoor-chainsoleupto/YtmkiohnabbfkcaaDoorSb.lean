/- The document's properties; of no statement by itself. -/
import Derived.Test.YtmkiohnabbfkcaaDoorSa
namespace Go.Proofs.YtmkiohnabbfkcaaDoor
open Go.RowKit
open St12
set_option linter.unusedVariables false
set_option linter.unusedSimpArgs false

theorem cells3s {w : World} {a : Nat} {x y z : Value} {t : TypeId} (h : w.heap[a]? = some (.cells #[x, y, z] t (0, 0))) : w.cell? ⟨a, 0, none⟩ = some x ∧ w.cell? ⟨a, 1, none⟩ = some y ∧ w.cell? ⟨a, 2, none⟩ = some z ∧ w.frozen? ⟨a, 0, none⟩ = false ∧ w.frozen? ⟨a, 1, none⟩ = false ∧ w.frozen? ⟨a, 2, none⟩ = false :=
  ⟨by simp [World.cell?, h], by simp [World.cell?, h], by simp [World.cell?, h], by simp [World.frozen?, h], by simp [World.frozen?, h], by simp [World.frozen?, h]⟩
theorem set_blk {w : World} {g i : Nat} {cs : Array Value} {t : TypeId} (u : Value) (h : w.heap[g]? = some (.cells cs t (0, 0))) : (w.setCell ⟨g, i, none⟩ u).heap[g]? = some (.cells (cs.setIfInBounds i u) t (0, 0)) := by
  have hlt := lt_of_blk h
  have h' : w.heap[g] = .cells cs t (0, 0) := by simpa [Array.getElem?_eq_getElem hlt] using h
  show (w.heap.modify g _)[g]? = _
  rw [Array.getElem?_eq_getElem (by simpa using hlt), Array.getElem_modify_self, h']
  rfl
/-- A store of three cells. -/
theorem store3 {W : World} {g : Nat} {x y z : Value} {t : TypeId} (h : W.heap[g]? = some (.cells #[x, y, z] t (0, 0))) (a b c : Value) : (W.cell? ⟨g, 0, none⟩ = some x ∧ W.frozen? ⟨g, 0, none⟩ = false) ∧ ((W.setCell ⟨g, 0, none⟩ a).cell? ⟨g, 1, none⟩ = some y ∧ (W.setCell ⟨g, 0, none⟩ a).frozen? ⟨g, 1, none⟩ = false) ∧ (((W.setCell ⟨g, 0, none⟩ a).setCell ⟨g, 1, none⟩ b).cell? ⟨g, 2, none⟩ = some z ∧ ((W.setCell ⟨g, 0, none⟩ a).setCell ⟨g, 1, none⟩ b).frozen? ⟨g, 2, none⟩ = false) ∧
    ((((W.setCell ⟨g, 0, none⟩ a).setCell ⟨g, 1, none⟩ b).setCell ⟨g, 2, none⟩ c).heap[g]? = some (.cells #[a, b, c] t (0, 0)) ∧ Chg (fun q => q = g) W (((W.setCell ⟨g, 0, none⟩ a).setCell ⟨g, 1, none⟩ b).setCell ⟨g, 2, none⟩ c)) := by
  have h1 : (W.setCell ⟨g, 0, none⟩ a).heap[g]? = some (.cells #[a, y, z] t (0, 0)) := set_blk a h
  have h2 : ((W.setCell ⟨g, 0, none⟩ a).setCell ⟨g, 1, none⟩ b).heap[g]? = some (.cells #[a, b, z] t (0, 0)) := set_blk b h1
  have h3 : (((W.setCell ⟨g, 0, none⟩ a).setCell ⟨g, 1, none⟩ b).setCell ⟨g, 2, none⟩ c).heap[g]? = some (.cells #[a, b, c] t (0, 0)) := set_blk c h2
  have k0 := cells3s h
  have k1 := cells3s h1
  have k2 := cells3s h2
  exact ⟨⟨k0.1, k0.2.2.2.1⟩, ⟨k1.2.1, k1.2.2.2.2.1⟩, ⟨k2.2.2.1, k2.2.2.2.2.2⟩, h3, (((Chg.refl (fun q => q = g) W).setCell (p := ⟨g, 0, none⟩) (.inl rfl) a).setCell (p := ⟨g, 1, none⟩) (.inl rfl) b).setCell (p := ⟨g, 2, none⟩) (.inl rfl) c⟩
theorem byteP_nat (p q r : Nat) (h : r + q ≤ 4) (hp : p ≤ 4) : byteP ⟨(r : Int), (q : Int), (p : Int)⟩ = ((((5 * p + q) * 9 + r : Nat) : Int), 0) := by
  unfold byteP
  rw [if_pos (by unfold allow; simp only; omega)]
  congr 1
/-- None of those that were tried has the byte. -/
def None3 (b : Int) (P Q R : Nat) : Prop := ∀ p : Prp, allow p → (p.pb < P ∨ (p.pb = P ∧ (p.lp < Q ∨ (p.lp = Q ∧ p.lc < R)))) → (5 * p.pb + p.lp) * 9 + p.lc ≠ b
theorem propsB_found {b : Int} {p : Prp} (h : allow p) (hb : (5 * p.pb + p.lp) * 9 + p.lc = b) : propsB b = (p, 0) := by
  have ht := told_of h
  rw [hb] at ht
  have hh := h
  obtain ⟨⟨h1, h2, h3⟩, h4, h5⟩ := hh
  unfold propsB
  rw [if_neg (by omega), ht, if_pos h]
theorem propsB_none {b : Int} (hb : 0 ≤ b ∧ b ≤ 255) (h : None3 b 5 0 0) : propsB b = (⟨0, 0, 0⟩, 2) := by
  unfold propsB
  rw [if_neg (by simpa using hb), if_neg]
  intro ha
  have hh := ha
  obtain ⟨⟨h1, h2, h3⟩, h4, h5⟩ := hh
  refine h (told b) ha (.inl (by show _ < ((5 : Nat) : Int); omega)) ?_
  refine of_told b ⟨hb.1, ?_⟩
  have : (told b).pb = b / 45 := rfl
  omega
end Go.Proofs.YtmkiohnabbfkcaaDoor
