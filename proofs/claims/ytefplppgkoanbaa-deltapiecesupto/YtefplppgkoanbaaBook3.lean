/- The book of the lists that are held, in memory, and small laws on it; of no statement by themselves. -/
import Derived.Test.YtefplppgkoanbaaHold3
namespace Go.Proofs.Ytefplppgkoanbaa.Bk
open Go.RowKit

/-- The list's bytes lie in a row of their own. -/
def Row (B : Nat) (w : World) (h : Hd) : Prop := w.ownsRow B 5 1 h.v h.ys.length (cells8 h.ys)
def RowsIn (B : Nat) (w : World) (cur : List Hd) : Prop := ∀ (i : Nat) (h : Hd), cur[i]? = some h → Row B w h
/-- No two lists share a row. -/
def Apart (cur : List Hd) : Prop := ∀ (i j : Nat) (a b : Hd), cur[i]? = some a → cur[j]? = some b → i ≠ j → ∀ g, a.v.ownBlock = some g → b.v.ownBlock ≠ some g
/-- The book's cells. -/
def hcells (cur : List Hd) : List Value := (cur.map Hd.cells).flatten

theorem hcells_length (cur : List Hd) : (hcells cur).length = cur.length * 5 := by
  induction cur with
  | nil => rfl
  | cons h t ih =>
    have e : hcells (h :: t) = h.cells ++ hcells t := rfl
    rw [e, List.length_append, ih]
    simp [Hd.cells]
    omega

theorem hcells_append (a b : List Hd) : hcells (a ++ b) = hcells a ++ hcells b := by simp [hcells]

theorem hcells_at (cur : List Hd) (k : Nat) (h : Hd) (hk : cur[k]? = some h) (j : Nat) (hj : j < 5) : (hcells cur)[k * 5 + j]? = h.cells[j]? := by
  induction cur generalizing k with
  | nil => simp at hk
  | cons a t ih =>
    have e : hcells (a :: t) = a.cells ++ hcells t := rfl
    have hl : a.cells.length = 5 := rfl
    rw [e]
    cases k with
    | zero =>
      simp at hk
      subst hk
      rw [List.getElem?_append_left (by omega)]
      simp
    | succ k =>
      rw [List.getElem?_append_right (by omega), ← ih k (by simpa using hk)]
      congr 1
      omega

theorem hcells_set_same (cur : List Hd) (k : Nat) (h h' : Hd) (hk : cur[k]? = some h) (hc : h'.cells = h.cells) : hcells (cur.set k h') = hcells cur := by
  unfold hcells
  congr 1
  apply List.ext_getElem?
  intro i
  rw [List.getElem?_map, List.getElem?_map]
  by_cases e : k = i
  · subst e
    obtain ⟨hlt, _⟩ := List.getElem?_eq_some_iff.1 hk
    rw [List.getElem?_set_self hlt, hk]
    simp [hc]
  · rw [List.getElem?_set_ne e]

/-- Five cells of the book are written anew. -/
theorem hcells_set (cur : List Hd) (k : Nat) (h' : Hd) (hk : k < cur.length) (c0 c1 c2 c3 c4 : Value) (hc : h'.cells = [c0, c1, c2, c3, c4]) :
    (((((hcells cur).set (k * 5 + 0) c0).set (k * 5 + 1) c1).set (k * 5 + 2) c2).set (k * 5 + 3) c3).set (k * 5 + 4) c4 = hcells (cur.set k h') := by
  induction cur generalizing k with
  | nil => simp at hk
  | cons a t ih =>
    have e : hcells (a :: t) = a.cells ++ hcells t := rfl
    cases k with
    | zero =>
      have e2 : hcells ((a :: t).set 0 h') = h'.cells ++ hcells t := rfl
      rw [e, e2, hc]
      rfl
    | succ k =>
      have e2 : hcells ((a :: t).set (k + 1) h') = a.cells ++ hcells (t.set k h') := rfl
      rw [e, e2, ← ih k (by simpa using hk)]
      have hl : a.cells.length = 5 := rfl
      rw [List.set_append_right _ _ (by omega), List.set_append_right _ _ (by omega), List.set_append_right _ _ (by omega), List.set_append_right _ _ (by omega), List.set_append_right _ _ (by omega), hl]
      congr 1
      rw [show (k + 1) * 5 + 0 - 5 = k * 5 + 0 by omega, show (k + 1) * 5 + 1 - 5 = k * 5 + 1 by omega, show (k + 1) * 5 + 2 - 5 = k * 5 + 2 by omega, show (k + 1) * 5 + 3 - 5 = k * 5 + 3 by omega, show (k + 1) * 5 + 4 - 5 = k * 5 + 4 by omega]

theorem Row.lt {B : Nat} {w : World} {h : Hd} (hr : Row B w h) {g : Nat} (hg : h.v.ownBlock = some g) : B ≤ g ∧ g < w.heap.size := World.ownsRow.lt hr g hg

/-- One list's row has turned, or moved into new memory; all others stay. -/
theorem rows_upd {B : Nat} {w w' : World} {cur : List Hd} {k : Nat} {h h' : Hd} (hr : RowsIn B w cur) (ha : Apart cur) (hk : cur[k]? = some h) (hc : Chg (fun b => h.v.ownBlock = some b) w w') (hn : Row B w' h') (hm : Moved w h.v h'.v) :
    RowsIn B w' (cur.set k h') ∧ Apart (cur.set k h') := by
  obtain ⟨hlt, _⟩ := List.getElem?_eq_some_iff.1 hk
  have hget : ∀ (i : Nat) (a : Hd), (cur.set k h')[i]? = some a → i = k ∧ a = h' ∨ i ≠ k ∧ cur[i]? = some a := by
    intro i a e
    by_cases ek : k = i
    · subst ek
      rw [List.getElem?_set_self hlt] at e
      exact .inl ⟨rfl, by simpa using e.symm⟩
    · rw [List.getElem?_set_ne ek] at e
      exact .inr ⟨fun f => ek f.symm, e⟩
  refine ⟨fun i a e => ?_, fun i j a b ei ej hij g hg => ?_⟩
  · rcases hget i a e with ⟨_, rfl⟩ | ⟨hne, e'⟩
    · exact hn
    · exact ownsRow_keep (hr i a e') hc (fun g hg f => ha i k a h e' hk hne g hg f)
  · rcases hget i a ei with ⟨rfl, rfl⟩ | ⟨hni, ei'⟩
    · rcases hget j b ej with ⟨rfl, rfl⟩ | ⟨hnj, ej'⟩
      · exact (hij rfl).elim
      · intro hb
        rcases hm g hg with e | e
        · exact ha _ j h b hk ej' hij g e hb
        · have := (hr j b ej').lt hb
          omega
    · rcases hget j b ej with ⟨rfl, rfl⟩ | ⟨hnj, ej'⟩
      · intro hb
        rcases hm g hb with e | e
        · exact ha _ i h a hk ei' (fun f => hni f.symm) g e hg
        · have := (hr i a ei').lt hg
          omega
      · exact ha i j a b ei' ej' hij g hg

theorem rows_keep {B : Nat} {w w' : World} {cur : List Hd} {S : Nat → Prop} (hr : RowsIn B w cur) (hc : Chg S w w') (hS : ∀ (i : Nat) (h : Hd), cur[i]? = some h → ∀ g, h.v.ownBlock = some g → ¬ S g) : RowsIn B w' cur :=
  fun i h e => ownsRow_keep (hr i h e) hc (hS i h e)
theorem rows_new {B : Nat} {w w' : World} {cur : List Hd} (hr : RowsIn B w cur) (hc : Chg (fun _ => False) w w') : RowsIn B w' cur := rows_keep hr hc (fun _ _ _ _ _ f => f)

theorem own_keep {w w' : World} {S : Nat → Prop} {B : Nat} {e : TypeId} {size : Nat} {v : Value} {n : Nat} {xs : List Value} (h : w.ownsRow B e size v n xs) (hc : Chg S w w') (hS : ∀ g, v.ownBlock = some g → ¬ S g) : w'.ownsRow B e size v n xs := by
  refine ⟨h.1, ?_⟩
  rcases h.2 with hn | ⟨g, cap, cur, rfl, hb, hgg, rest⟩
  · exact .inl hn
  · exact .inr ⟨g, cap, cur, rfl, hb, (hc.block g (lt_of_blk hgg) (hS g rfl)).trans hgg, rest⟩

theorem own_blk {w : World} {B : Nat} {e : TypeId} {size : Nat} {v : Value} {n : Nat} {xs : List Value} (h : w.ownsRow B e size v n xs) {g : Nat} (hg : v.ownBlock = some g) : ∃ cur, w.heap[g]? = some (.cells cur e (0, 0)) := by
  rcases h.2 with ⟨rfl, _⟩ | ⟨g', cap, cur, rfl, hb, hgg, _⟩
  · simp [Value.ownBlock] at hg
  · simp [Value.ownBlock] at hg
    subst hg
    exact ⟨cur, hgg⟩

/-- The book's block is none of a list's rows: their cells are of other types. -/
theorem book_ne {B : Nat} {w : World} {lv : Value} {n : Nat} {xs : List Value} {h : Hd} (hl : w.ownsRow B 49 5 lv n xs) (hr : Row B w h) {g : Nat} (hg : lv.ownBlock = some g) : h.v.ownBlock ≠ some g := by
  intro e
  obtain ⟨c1, h1⟩ := own_blk hl hg
  obtain ⟨c2, h2⟩ := own_blk hr e
  rw [h1] at h2
  simp at h2

theorem book_shape {w : World} {B : Nat} {v : Value} {n : Nat} {xs : List Value} (h : w.ownsRow B 49 5 v n xs) : v = .slice none 0 0 ∧ n = 0 ∨ ∃ g cap, v = .slice (some ⟨g, 0, none⟩) n cap := by
  rcases h.2 with h | ⟨g, cap, _, h, _⟩
  · exact .inl h
  · exact .inr ⟨g, cap, h⟩

/-- One entry of the book, cell by cell. -/
theorem book_cells {w : World} {B g cap : Nat} {cur : List Hd} (h : w.ownsRow B 49 5 (.slice (some ⟨g, 0, none⟩) cur.length cap) cur.length (hcells cur)) (k : Nat) (a : Hd) (hk : cur[k]? = some a) :
    w.cell? ⟨g, k * 5, none⟩ = some a.v ∧ w.cell? ⟨g, k * 5 + 1, none⟩ = some (.int .i64 a.n) ∧ w.cell? ⟨g, k * 5 + 2, none⟩ = some (.int .u8 a.mark) ∧ w.cell? ⟨g, k * 5 + 3, none⟩ = some (.string a.want) ∧ w.cell? ⟨g, k * 5 + 4, none⟩ = some (.bool a.kept) := by
  obtain ⟨hlt, _⟩ := List.getElem?_eq_some_iff.1 hk
  have hj : ∀ j, j < 5 → w.cell? ⟨g, k * 5 + j, none⟩ = a.cells[j]? := fun j hj => by
    rw [h.cellAt (k * 5 + j) (by omega), hcells_at cur k a hk j hj]
  exact ⟨hj 0 (by omega), hj 1 (by omega), hj 2 (by omega), hj 3 (by omega), hj 4 (by omega)⟩

theorem infoHeld : (Try.prog.info? 49).map (fun i => (i.zero, i.size, i.bytes)) = some (some (.agg #[.slice none 0 0, .int .i64 0, .int .u8 0, .string ⟨#[]⟩, .bool false]), 5, 64) := by kernel_rfl

end Go.Proofs.Ytefplppgkoanbaa.Bk
