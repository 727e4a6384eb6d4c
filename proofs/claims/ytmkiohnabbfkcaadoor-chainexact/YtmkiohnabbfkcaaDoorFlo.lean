/- Lists of filters of one's own, with their properties; of no statement by themselves. -/
import Derived.Test.YtmkiohnabbfkcaaDoorFla
namespace Go.Proofs.YtmkiohnabbfkcaaDoor
open Go.RowKit
set_option linter.unusedVariables false
set_option linter.unusedSimpArgs false
/-- A list of filters of one's own, with their properties. -/
structure Of0 (B : Nat) (w : World) (lv : Value) (q : List FlV) : Prop where
  own : FlO w B lv q
  pcs : ∀ (k : Nat) (x : FlV), q[k]? = some x → ByO w B (.slice x.a x.n x.c) x.bs ∧ x.id < 18446744073709551616 ∧ Rc.Dig x.bs ∧ x.n ≤ 140737488351232
theorem Of0.nil (B : Nat) (w : World) : Of0 B w (.slice none 0 0) [] := ⟨World.ownsRow_nil _ _ _ _, fun k x e => by simp at e⟩
theorem Of0.new {B : Nat} {w w' : World} {lv : Value} {q : List FlV} (h : Of0 B w lv q) (hc : Chg (fun _ => False) w w') : Of0 B w' lv q := ⟨owns_newF h.own hc, fun k x e => ⟨(h.pcs k x e).1.new hc, (h.pcs k x e).2⟩⟩
theorem Of0.push {B : Nat} {w w2 : World} {lv lv' : Value} {q : List FlV} {x : FlV} {n : Nat} (h : Of0 B w lv q) (hx : ByO w B (.slice x.a x.n x.c) x.bs ∧ x.id < 18446744073709551616 ∧ Rc.Dig x.bs ∧ x.n ≤ 140737488351232) (hn : n = q.length + 1) (ho : w2.ownsRow B 36 2 lv' n (flcs q ++ flcs [x])) (hg : w.grownBy w2 lv.ownBlock) : Of0 B w2 lv' (q ++ [x]) := by
  subst hn
  have hC : Chg (fun g => lv.ownBlock = some g) w w2 := (Chg.refl _ w).grown hg (fun g e => .inl e)
  have keep : ∀ y : FlV, ByO w B (.slice y.a y.n y.c) y.bs → ByO w2 B (.slice y.a y.n y.c) y.bs := fun y hy => ownsRow_keep hy hC (fun g e f => by
    obtain ⟨c1, h1⟩ := ownsRow_blk hy e
    obtain ⟨c2, h2⟩ := owns_blkF h.own f
    exact ty_ne h2 h1 (by decide))
  refine ⟨?_, fun k y e => ?_⟩
  · unfold FlO
    rw [List.length_append, List.length_singleton, flcs_append]
    exact ho
  · by_cases hk : k < q.length
    · rw [List.getElem?_append_left hk] at e
      exact ⟨keep y (h.pcs k y e).1, (h.pcs k y e).2⟩
    · have h1 := (List.getElem?_eq_some_iff.1 e).1
      simp at h1
      obtain rfl : k = q.length := by omega
      simp at e
      subst e
      exact ⟨keep x hx.1, hx.2⟩
theorem Of0.L {B : Nat} {w : World} {ad : Option Addr} {n c : Nat} {q : List FlV} (h : Of0 B w (.slice ad n c) q) : FlL w ad q := flO_L h.own (fun k x e => by
  obtain ⟨h1, h2, h3, h4⟩ := h.pcs k x e
  exact ⟨h2, (byO_row h1).1, h3, (byO_row h1).2.2, h4⟩)
theorem own_lit1 (w : World) (x : Nat) : ByO (w.alloc (.cells #[.int .u8 (x : Int)] 5)) w.heap.size (.slice (some ⟨w.heap.size, 0, none⟩) 1 1) [x] := by
  have h := World.ownsRow_lit (base := w.heap.size) (e := 5) (size := 1) w #[.int .u8 (x : Int)] 1 (Nat.le_refl _) (by decide) rfl
  exact h
/-- No two lie in one block. -/
def InjF (l : List FlV) : Prop := ∀ (i j : Nat) (x y : FlV) (g : Nat), l[i]? = some x → l[j]? = some y → (Value.slice x.a x.n x.c).ownBlock = some g → (Value.slice y.a y.n y.c).ownBlock = some g → i = j
end Go.Proofs.YtmkiohnabbfkcaaDoor
