/- Filters as they are handed in with marks behind them: the law's room; of no statement by itself. -/
import Derived.Test.YtmkiohnabbfkcaaDoorCsp
import Derived.BigQuiet
import Derived.BigRegion
import Derived.Deep.QuietTactic
namespace Go.Proofs.YtmkiohnabbfkcaaDoor
open Go.RowKit
set_option linter.unusedVariables false
set_option linter.unusedSimpArgs false
/-- A copy, with the mark behind its properties. -/
structure FlV.mark (q : FlV) (B : Nat) (w : World) : Prop where
  own : ByO w B (.slice q.a (q.n + 1) q.c) (q.bs ++ [77])
  id : q.id < 18446744073709551616
  len : q.bs.length = q.n
  dig : Rc.Dig q.bs
  lim : q.n ≤ 140737488351232
/-- What room has made so far: the copies q. -/
structure Rm (w0 w : World) (rp : Nat) (lv fv : Value) (q : List FlV) : Prop where
  lo : w0.heap.size ≤ rp
  blk : w.heap[rp]? = some (.cells #[lv, fv] 61 (0, 0))
  lst : FlO w w0.heap.size lv q
  ful : w.ownsRow w0.heap.size 23 1 fv q.length (q.map fun x => .slice x.a (x.n + 1) x.c)
  pcs : ∀ (k : Nat) (x : FlV), q[k]? = some x → x.mark w0.heap.size w
  chg : Chg (fun _ => False) w0 w
theorem FlV.mark.new {q : FlV} {B : Nat} {w w' : World} (h : q.mark B w) (hc : Chg (fun _ => False) w w') : q.mark B w' := ⟨h.own.new hc, h.id, h.len, h.dig, h.lim⟩
theorem Rm.new {w0 w w' : World} {rp : Nat} {lv fv : Value} {q : List FlV} (h : Rm w0 w rp lv fv q) (hc : Chg (fun _ => False) w w') : Rm w0 w' rp lv fv q :=
  ⟨h.lo, blk_keep h.blk hc (fun f => f), owns_newF h.lst hc, ownsRow_keep h.ful hc (fun _ _ f => f), fun k x e => (h.pcs k x e).new hc, chg_then h.chg hc⟩
theorem Rm.start (w : World) : Rm w (w.alloc (.cells #[.slice none 0 0, .slice none 0 0] 61)) w.heap.size (.slice none 0 0) (.slice none 0 0) [] :=
  ⟨Nat.le_refl _, heap_alloc_last w _, World.ownsRow_nil _ _ _ _, World.ownsRow_nil _ _ _ _, fun k x e => by simp at e, chg_one _ _⟩
/-- The list of the whole lists grows: nothing else has turned. -/
theorem Rm.full {w0 w w2 : World} {rp : Nat} {lv fv fv' : Value} {q : List FlV} {x : FlV} (h : Rm w0 w rp lv fv q) (hx : x.mark w0.heap.size w) (ho : w2.ownsRow w0.heap.size 23 1 fv' (q.length + 1) ((q.map fun x => .slice x.a (x.n + 1) x.c) ++ [.slice x.a (x.n + 1) x.c])) (hg : w.grownBy w2 fv.ownBlock) (hm : Moved w fv fv') :
    w2.heap[rp]? = some (.cells #[lv, fv] 61 (0, 0)) ∧ FlO w2 w0.heap.size lv q ∧ (∀ (k : Nat) (y : FlV), (q ++ [x])[k]? = some y → y.mark w0.heap.size w2) ∧ Chg (fun _ => False) w0 w2 := by
  have hC : Chg (fun g => fv.ownBlock = some g) w w2 := (Chg.refl _ w).grown hg (fun g e => .inl e)
  have hmk : ∀ y : FlV, y.mark w0.heap.size w → y.mark w0.heap.size w2 := fun y hy => by
    refine ⟨ownsRow_keep hy.own hC (fun g e f => ?_), hy.id, hy.len, hy.dig, hy.lim⟩
    obtain ⟨c1, h1⟩ := ownsRow_blk hy.own e
    obtain ⟨c2, h2⟩ := owns_blkF h.ful f
    exact ty_ne h2 h1 (by decide)
  refine ⟨blk_keep h.blk hC (fun e => ?_), owns_keepF h.lst hC (fun g e f => ?_), fun k y e => ?_, h.chg.trans hC (fun g e => .inr (h.ful.lt g e).1)⟩
  · obtain ⟨c2, h2⟩ := owns_blkF h.ful e
    exact ty_ne h2 h.blk (by decide)
  · obtain ⟨c1, h1⟩ := owns_blkF h.lst e
    obtain ⟨c2, h2⟩ := owns_blkF h.ful f
    exact ty_ne h2 h1 (by decide)
  · by_cases hk : k < q.length
    · rw [List.getElem?_append_left hk] at e
      exact hmk y (h.pcs k y e)
    · have h1 := (List.getElem?_eq_some_iff.1 e).1
      simp at h1
      obtain rfl : k = q.length := by omega
      simp at e
      subst e
      exact hmk x hx
/-- Between the two appends. -/
structure Rn (w0 w : World) (rp : Nat) (lv fv : Value) (q : List FlV) (x : FlV) : Prop where
  lo : w0.heap.size ≤ rp
  blk : w.heap[rp]? = some (.cells #[lv, fv] 61 (0, 0))
  lst : FlO w w0.heap.size lv q
  ful : w.ownsRow w0.heap.size 23 1 fv (q.length + 1) ((q ++ [x]).map fun x => .slice x.a (x.n + 1) x.c)
  pcs : ∀ (k : Nat) (y : FlV), (q ++ [x])[k]? = some y → y.mark w0.heap.size w
  chg : Chg (fun _ => False) w0 w
theorem Rn.new {w0 w w' : World} {rp : Nat} {lv fv : Value} {q : List FlV} {x : FlV} (h : Rn w0 w rp lv fv q x) (hc : Chg (fun _ => False) w w') : Rn w0 w' rp lv fv q x :=
  ⟨h.lo, blk_keep h.blk hc (fun f => f), owns_newF h.lst hc, ownsRow_keep h.ful hc (fun _ _ f => f), fun k x e => (h.pcs k x e).new hc, chg_then h.chg hc⟩
theorem Rm.fullS {w0 w w2 : World} {rp : Nat} {lv fv fv' : Value} {q : List FlV} {x : FlV} (h : Rm w0 w rp lv fv q) (hx : x.mark w0.heap.size w) (ho : w2.ownsRow w0.heap.size 23 1 fv' (q.length + 1) ((q.map fun x => .slice x.a (x.n + 1) x.c) ++ [.slice x.a (x.n + 1) x.c])) (hg : w.grownBy w2 fv.ownBlock) (hm : Moved w fv fv') :
    Rn w0 (w2.setCell ⟨rp, 1, none⟩ fv') rp lv fv' q x := by
  obtain ⟨a, b, c, d⟩ := h.full hx ho hg hm
  have hC : Chg (fun g => g = rp) w2 (w2.setCell ⟨rp, 1, none⟩ fv') := Chg.setCell (S := fun g => g = rp) (Chg.refl _ w2) (p := ⟨rp, 1, none⟩) (.inl rfl) _
  have ne : ∀ (B size : Nat) (e : TypeId) (v : Value) (n : Nat) (xs : List Value), w2.ownsRow B e size v n xs → e ≠ 61 → ∀ g, v.ownBlock = some g → ¬ (g = rp) := fun B size e v n xs ho he g hg f => by
    subst f
    obtain ⟨c1, h1⟩ := owns_blkF ho hg
    exact ty_ne h1 a he
  refine ⟨h.lo, blk_set1 a, owns_keepF b hC (ne _ _ _ _ _ _ b (by decide)), ?_, fun k y e => ?_, d.trans hC (fun g e => .inr (by rw [e]; exact h.lo))⟩
  · rw [List.map_append]
    exact owns_keepF ho hC (ne _ _ _ _ _ _ ho (by decide))
  · have hy := c k y e
    exact ⟨ownsRow_keep hy.own hC (ne _ _ _ _ _ _ hy.own (by decide)), hy.id, hy.len, hy.dig, hy.lim⟩
theorem Rn.listS {w0 w w2 : World} {rp : Nat} {lv lv' fv : Value} {q : List FlV} {x : FlV} (h : Rn w0 w rp lv fv q x) (ho : FlO w2 w0.heap.size lv' (q ++ [x])) (hg : w.grownBy w2 lv.ownBlock) :
    Rm w0 (w2.setCell ⟨rp, 0, none⟩ lv') rp lv' fv (q ++ [x]) := by
  have hC0 : Chg (fun g => lv.ownBlock = some g) w w2 := (Chg.refl _ w).grown hg (fun g e => .inl e)
  have a : w2.heap[rp]? = some (.cells #[lv, fv] 61 (0, 0)) := blk_keep h.blk hC0 (fun e => by
    obtain ⟨c2, h2⟩ := owns_blkF h.lst e
    exact ty_ne h2 h.blk (by decide))
  have hC : Chg (fun g => g = rp) w2 (w2.setCell ⟨rp, 0, none⟩ lv') := Chg.setCell (S := fun g => g = rp) (Chg.refl _ w2) (p := ⟨rp, 0, none⟩) (.inl rfl) _
  have ne : ∀ (B size : Nat) (e : TypeId) (v : Value) (n : Nat) (xs : List Value), w2.ownsRow B e size v n xs → e ≠ 61 → ∀ g, v.ownBlock = some g → ¬ (g = rp) := fun B size e v n xs ho he g hg f => by
    subst f
    obtain ⟨c1, h1⟩ := owns_blkF ho hg
    exact ty_ne h1 a he
  have ne0 : ∀ (B size : Nat) (e : TypeId) (v : Value) (n : Nat) (xs : List Value), w.ownsRow B e size v n xs → e ≠ 36 → ∀ g, v.ownBlock = some g → ¬ (lv.ownBlock = some g) := fun B size e v n xs ho he g hg f => by
    obtain ⟨c1, h1⟩ := owns_blkF ho hg
    obtain ⟨c2, h2⟩ := owns_blkF h.lst f
    exact ty_ne h1 h2 he
  have hf2 := owns_keepF h.ful hC0 (ne0 _ _ _ _ _ _ h.ful (by decide))
  have hl : (q ++ [x]).length = q.length + 1 := by simp
  refine ⟨h.lo, blk_set0 a, owns_keepF ho hC (ne _ _ _ _ _ _ ho (by decide)), ?_, fun k y e => ?_, (h.chg.trans hC0 (fun g e => .inr (h.lst.lt g e).1)).trans hC (fun g e => .inr (by rw [e]; exact h.lo))⟩
  · rw [hl]
    exact owns_keepF hf2 hC (ne _ _ _ _ _ _ hf2 (by decide))
  · have hy := h.pcs k y e
    have h1 := ownsRow_keep hy.own hC0 (ne0 _ _ _ _ _ _ hy.own (by decide))
    exact ⟨ownsRow_keep h1 hC (ne _ _ _ _ _ _ h1 (by decide)), hy.id, hy.len, hy.dig, hy.lim⟩
end Go.Proofs.YtmkiohnabbfkcaaDoor
