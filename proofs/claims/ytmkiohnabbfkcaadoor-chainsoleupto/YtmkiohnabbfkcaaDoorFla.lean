/- Lists of filters in memory: as they came in, and of one's own; of no statement by themselves. -/
import Derived.Test.YtmkiohnabbfkcaaDoorCna
import Derived.Test.YtmkiohnabbfkcaaDoorLastQ
import Derived.Deep.DeepCutAuto
import Derived.Great.BuildSlice
import Derived.Laws.StructEq
namespace Go.Proofs.YtmkiohnabbfkcaaDoor
open Go.RowKit
set_option linter.unusedVariables false
set_option linter.unusedSimpArgs false
/-- A filter in memory: its number, its properties as a slice tells them. -/
structure FlV where
  id : Nat
  a : Option Addr
  n : Nat
  c : Nat
  bs : List Nat
def FlV.f (q : FlV) : Flt := ⟨q.id, q.bs⟩
def FlV.v (q : FlV) : Value := .agg #[.int .u64 (q.id : Int), .slice q.a q.n q.c]
def FlV.cells (q : FlV) : List Value := [.int .u64 (q.id : Int), .slice q.a q.n q.c]
/-- Its bytes lie there. -/
structure FlV.ok (W : World) (q : FlV) : Prop where
  id : q.id < 18446744073709551616
  row : Row8 W q.a q.n q.c (nums q.bs)
  dig : Rc.Dig q.bs
  cap : q.n ≤ q.c
  lim : q.n ≤ 140737488351232
theorem FlV.ok.len {W : World} {q : FlV} (h : q.ok W) : q.bs.length = q.n := by have := h.row.1; rw [nums_len] at this; exact this
theorem FlV.ok.new {W W' : World} {q : FlV} (h : q.ok W) (hc : Chg (fun _ => False) W W') : q.ok W' := ⟨h.id, Bk.row8_chg h.row hc, h.dig, h.cap, h.lim⟩
/-- A list of filters. -/
def FlL (w : World) (ad : Option Addr) (l : List FlV) : Prop := ∀ (k : Nat) (q : FlV), l[k]? = some q → q.ok w ∧ ∃ b off, ad = some ⟨b, off, none⟩ ∧ w.cell? ⟨b, off + k * 2, none⟩ = some (.int .u64 (q.id : Int)) ∧ w.cell? ⟨b, off + k * 2 + 1, none⟩ = some (.slice q.a q.n q.c)
theorem FlL.new {w w' : World} {ad : Option Addr} {l : List FlV} (h : FlL w ad l) (hc : Chg (fun _ => False) w w') : FlL w' ad l := fun k q hk => by
  obtain ⟨ho, b, off, e, h0, h1⟩ := h k q hk
  exact ⟨ho.new hc, b, off, e, cell_chg h0 hc, cell_chg h1 hc⟩
theorem FlL.at {w : World} {ad : Option Addr} {l : List FlV} (h : FlL w ad l) {k : Nat} (hk : k < l.length) : ∃ q b off, l[k]? = some q ∧ q.ok w ∧ ad = some ⟨b, off, none⟩ ∧ w.cell? ⟨b, off + k * 2, none⟩ = some (.int .u64 (q.id : Int)) ∧ w.cell? ⟨b, off + k * 2 + 1, none⟩ = some (.slice q.a q.n q.c) := by
  have e := List.getElem?_eq_getElem hk
  obtain ⟨ho, b, off, e1, h0, h1⟩ := h k _ e
  exact ⟨_, b, off, e, ho, e1, h0, h1⟩
theorem FlL.nil (w : World) (ad : Option Addr) : FlL w ad [] := fun k q hk => by simp at hk
/-- Filters as cells. -/
def flcs (l : List FlV) : List Value := l.flatMap FlV.cells
theorem flcs_append (a b : List FlV) : flcs (a ++ b) = flcs a ++ flcs b := by simp [flcs]
theorem flcs_one (q : FlV) : flcs [q] = q.cells := by simp [flcs]
theorem flcs_len (l : List FlV) : (flcs l).length = l.length * 2 := by
  induction l with
  | nil => rfl
  | cons y l ih => simp only [flcs, List.flatMap_cons, List.length_append] at *; rw [ih]; simp [FlV.cells]; omega
theorem flcs_at : ∀ (l : List FlV) (k : Nat) (q : FlV), l[k]? = some q → (flcs l)[k * 2]? = some (.int .u64 (q.id : Int)) ∧ (flcs l)[k * 2 + 1]? = some (.slice q.a q.n q.c)
  | [], k, p, h => by simp at h
  | q :: l, 0, p, h => by
    simp at h
    subst h
    exact ⟨rfl, rfl⟩
  | q :: l, k + 1, p, h => by
    obtain ⟨h1, h2⟩ := flcs_at l k p (by simpa using h)
    have e : flcs (q :: l) = .int .u64 (q.id : Int) :: .slice q.a q.n q.c :: flcs l := rfl
    rw [e]
    exact ⟨by rw [show (k + 1) * 2 = k * 2 + 1 + 1 by omega]; simpa using h1, by rw [show (k + 1) * 2 + 1 = k * 2 + 1 + 1 + 1 by omega]; simpa using h2⟩
theorem flcs_cell (l : List FlV) : ∀ u ∈ flcs l, u.oneCell' = true := fun u hu => by
  unfold flcs at hu
  rw [List.mem_flatMap] at hu
  obtain ⟨y, _, h⟩ := hu
  simp only [FlV.cells, List.mem_cons, List.not_mem_nil, or_false] at h
  rcases h with rfl | rfl <;> rfl
theorem infoFl : (Tryd.prog.info? 36).map (fun i => (i.zero, i.size, i.bytes)) = some (some (.agg #[.int .u64 0, .slice none 0 0]), 2, 32) := by kernel_rfl
theorem infoBs : (Tryd.prog.info? 23).map (fun i => (i.zero, i.size, i.bytes)) = some (some (.slice none 0 0), 1, 24) := by kernel_rfl
/-- A list of filters of one's own. -/
def FlO (w : World) (B : Nat) (v : Value) (l : List FlV) : Prop := w.ownsRow B 36 2 v l.length (flcs l)
theorem formF {w : World} {B : Nat} {t : TypeId} {size : Nat} {lv : Value} {n : Nat} {xs : List Value} (h : w.ownsRow B t size lv n xs) : ∃ a c, lv = .slice a n c := by
  rcases h.2 with ⟨rfl, rfl⟩ | ⟨g, cap, cur, rfl, _⟩
  · exact ⟨none, 0, rfl⟩
  · exact ⟨_, _, rfl⟩
theorem owns_keepF {w w' : World} {S : Nat → Prop} {B size : Nat} {e : TypeId} {v : Value} {n : Nat} {xs : List Value} (h : w.ownsRow B e size v n xs) (hc : Chg S w w') (hS : ∀ g, v.ownBlock = some g → ¬ S g) : w'.ownsRow B e size v n xs := by
  refine ⟨h.1, ?_⟩
  rcases h.2 with hn | ⟨g, cap, cur, rfl, hb, hgg, rest⟩
  · exact .inl hn
  · exact .inr ⟨g, cap, cur, rfl, hb, (hc.block g (lt_of_blk hgg) (hS g rfl)).trans hgg, rest⟩
theorem owns_blkF {w : World} {B size : Nat} {e : TypeId} {v : Value} {n : Nat} {xs : List Value} (h : w.ownsRow B e size v n xs) {g : Nat} (hg : v.ownBlock = some g) : ∃ cur, w.heap[g]? = some (.cells cur e (0, 0)) := by
  rcases h.2 with ⟨rfl, _⟩ | ⟨g', cap, cur, rfl, hb, hgg, _⟩
  · simp [Value.ownBlock] at hg
  · simp [Value.ownBlock] at hg
    subst hg
    exact ⟨cur, hgg⟩
theorem owns_someF {w : World} {B size : Nat} {e : TypeId} {v : Value} {n : Nat} {xs : List Value} (h : w.ownsRow B e size v n xs) (hn : 0 < n) : ∃ g c, v = .slice (some ⟨g, 0, none⟩) n c ∧ n ≤ c ∧ B ≤ g ∧ g < w.heap.size := by
  have hlt := h.lt
  rcases h.2 with ⟨_, e⟩ | ⟨g, c, cur, rfl, hb, hg, hnc, _⟩
  · omega
  · exact ⟨g, c, rfl, hnc, hb, lt_of_blk hg⟩
theorem owns_newF {w w' : World} {B size : Nat} {e : TypeId} {v : Value} {n : Nat} {xs : List Value} (h : w.ownsRow B e size v n xs) (hc : Chg (fun _ => False) w w') : w'.ownsRow B e size v n xs := owns_keepF h hc (fun _ _ f => f)
/-- One filter as a source. -/
theorem from_fl (w : World) (q : FlV) (t : TypeId) : From (w.alloc (.cells #[.int .u64 (q.id : Int), .slice q.a q.n q.c] t)) (some ⟨w.heap.size, 0, none⟩) 1 1 2 (flcs [q]) := by
  refine ⟨by rw [flcs_len]; rfl, .inr ⟨_, rfl, fun j u hu => ?_⟩⟩
  have hadd : (⟨w.heap.size, 0, none⟩ : Addr).add j = ⟨w.heap.size, j, none⟩ := by unfold Addr.add; split <;> simp_all
  rw [flcs_one] at hu
  rw [hadd, World.cell?, heap_alloc_new]
  simpa [FlV.cells] using hu
/-- What is of one's own lies as a list that came in does, if its properties do. -/
theorem flO_L {w : World} {B : Nat} {ad : Option Addr} {n c : Nat} {l : List FlV} (h : FlO w B (.slice ad n c) l) (ho : ∀ (k : Nat) (q : FlV), l[k]? = some q → q.ok w) : FlL w ad l := fun k q hk => by
  have hkl : k < l.length := (List.getElem?_eq_some_iff.1 hk).1
  obtain ⟨g, c', e, _⟩ := owns_someF h (by omega)
  simp only [Value.slice.injEq] at e
  obtain ⟨rfl, rfl, rfl⟩ := e
  obtain ⟨a0, a1⟩ := flcs_at l k q hk
  have hl := flcs_len l
  unfold FlO at h
  refine ⟨ho k q hk, g, 0, rfl, ?_, ?_⟩
  · rw [Nat.zero_add, h.cellAt (k * 2) (by omega)]; exact a0
  · rw [Nat.zero_add, h.cellAt (k * 2 + 1) (by omega)]; exact a1
end Go.Proofs.YtmkiohnabbfkcaaDoor
