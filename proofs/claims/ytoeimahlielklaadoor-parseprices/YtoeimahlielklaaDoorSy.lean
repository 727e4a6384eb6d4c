/- Lists of symbols of one's own; of no statement by themselves. -/
import Derived.Test.YtoeimahlielklaaDoorSj
import Derived.Test.YtoeimahlielklaaDoorCt
namespace Go.Proofs.YtoeimahlielklaaDoor
open Go.RowKit
open St12
set_option linter.unusedVariables false
set_option linter.unusedSimpArgs false
/-- The cells of symbols. -/
def symc (y : Sym) : List Value := [.int .i64 y.k, .int .u8 y.y, .int .i64 y.l, .int .i64 y.d]
def symcs (l : List Sym) : List Value := l.flatMap symc
theorem symcs_append (a b : List Sym) : symcs (a ++ b) = symcs a ++ symcs b := by simp [symcs]
theorem symcs_one (y : Sym) : symcs [y] = symc y := by simp [symcs]
theorem symcs_len : ∀ l : List Sym, (symcs l).length = l.length * 4
  | [] => rfl
  | y :: l => by
    have := symcs_len l
    simp only [symcs, List.flatMap_cons, List.length_append, List.length_cons] at this ⊢
    rw [this]
    simp [symc]
    omega
theorem symcs_at : ∀ (l : List Sym) (k : Nat) (y : Sym), l[k]? = some y → ∀ j, j < 4 → (symcs l)[k * 4 + j]? = (symc y)[j]?
  | [], k, y, h, j, hj => by simp at h
  | z :: l, 0, y, h, j, hj => by
    simp only [List.getElem?_cons_zero, Option.some.injEq] at h
    subst h
    simp only [symcs, List.flatMap_cons]
    rw [List.getElem?_append_left (by simp [symc]; omega)]
    congr 1
    omega
  | z :: l, k + 1, y, h, j, hj => by
    rw [List.getElem?_cons_succ] at h
    have := symcs_at l k y h j hj
    simp only [symcs, List.flatMap_cons] at this ⊢
    rw [List.getElem?_append_right (by simp [symc]; omega)]
    rw [← this]
    congr 1
    simp [symc]
    omega
theorem symcs_cell : ∀ (l : List Sym), ∀ u ∈ symcs l, u.oneCell' = true := fun l u hu => by
  unfold symcs at hu
  rw [List.mem_flatMap] at hu
  obtain ⟨y, _, h⟩ := hu
  simp only [symc, List.mem_cons, List.not_mem_nil, or_false] at h
  rcases h with rfl | rfl | rfl | rfl <;> rfl
/-- A list of symbols of one's own. -/
def SymO (w : World) (B : Nat) (v : Value) (l : List Sym) : Prop := w.ownsRow B 24 4 v l.length (symcs l)
theorem infoSym : (Tryd.prog.info? 24).map (fun i => (i.zero, i.size, i.bytes)) = some (some (.agg #[.int .i64 0, .int .u8 0, .int .i64 0, .int .i64 0]), 4, 32) := by kernel_rfl
theorem symcs_at4 {l : List Sym} {k : Nat} {y : Sym} (h : l[k]? = some y) : (symcs l)[k * 4]? = some (.int .i64 y.k) ∧ (symcs l)[k * 4 + 1]? = some (.int .u8 y.y) ∧ (symcs l)[k * 4 + 2]? = some (.int .i64 y.l) ∧ (symcs l)[k * 4 + 3]? = some (.int .i64 y.d) :=
  ⟨symcs_at l k y h 0 (by decide), symcs_at l k y h 1 (by decide), symcs_at l k y h 2 (by decide), symcs_at l k y h 3 (by decide)⟩
/-- Symbols that lie anywhere, as a source. -/
theorem from_symL {w : World} {ad : Option Addr} {n c : Nat} {l : List Sym} (h : SymL w ad l) (hl : l.length = n) (h0 : n = 0 → ad = none → c = 0) : From w ad n c 4 (symcs l) := by
  refine ⟨by rw [symcs_len, hl], ?_⟩
  cases ad with
  | none =>
    have : l = [] := by
      cases l with
      | nil => rfl
      | cons y t =>
        obtain ⟨_, b, off, e, _⟩ := h 0 y rfl
        cases e
    subst this
    have hn : n = 0 := by simpa using hl.symm
    exact .inl ⟨rfl, hn, h0 hn rfl⟩
  | some x =>
    refine .inr ⟨x, rfl, fun j u hu => ?_⟩
    have hj := (List.getElem?_eq_some_iff.1 hu).1
    rw [symcs_len] at hj
    obtain ⟨y, hy⟩ : ∃ y, l[j / 4]? = some y := ⟨_, List.getElem?_eq_getElem (by omega)⟩
    obtain ⟨_, b, off, e, x0, x1, x2, x3⟩ := h (j / 4) y hy
    obtain ⟨y0, y1, y2, y3⟩ := symcs_at4 hy
    injection e with e
    subst e
    rw [addk]
    have hm : j % 4 = 0 ∨ j % 4 = 1 ∨ j % 4 = 2 ∨ j % 4 = 3 := by omega
    have hd := Nat.div_add_mod j 4
    rcases hm with hm | hm | hm | hm
    · rw [show j = j / 4 * 4 by omega, y0] at hu
      rw [show off + j = off + j / 4 * 4 by omega, x0, ← hu]
    · rw [show j = j / 4 * 4 + 1 by omega, y1] at hu
      rw [show off + j = off + j / 4 * 4 + 1 by omega, x1, ← hu]
    · rw [show j = j / 4 * 4 + 2 by omega, y2] at hu
      rw [show off + j = off + j / 4 * 4 + 2 by omega, x2, ← hu]
    · rw [show j = j / 4 * 4 + 3 by omega, y3] at hu
      rw [show off + j = off + j / 4 * 4 + 3 by omega, x3, ← hu]
/-- A list of one's own is a list in memory. -/
theorem symL_own {w : World} {B n m c : Nat} {ad : Option Addr} {l : List Sym} (h : w.ownsRow B 24 4 (.slice ad n c) n (symcs l)) (hI : ∀ y ∈ l, y.I) (m0 : List Sym) (hm : ∀ (k : Nat) (y : Sym), m0[k]? = some y → l[k]? = some y) : SymL w ad m0 := fun k y hk => by
  have hk2 := hm k y hk
  obtain ⟨y0, y1, y2, y3⟩ := symcs_at4 hk2
  refine ⟨hI y (List.mem_of_getElem? hk2), ?_⟩
  rcases h.2 with ⟨e0, e1⟩ | ⟨g, cap, cur, e0, _⟩
  · have h1 := h.1
    have h3 := (List.getElem?_eq_some_iff.1 y0).1
    omega
  · simp only [Value.slice.injEq, true_and] at e0
    obtain ⟨rfl, rfl⟩ := e0
    have c0 := h.cells (g := g) rfl _ _ y0
    have c1 := h.cells (g := g) rfl _ _ y1
    have c2 := h.cells (g := g) rfl _ _ y2
    have c3 := h.cells (g := g) rfl _ _ y3
    rw [addk, Nat.zero_add] at c0 c1 c2 c3
    exact ⟨g, 0, rfl, by rw [Nat.zero_add]; exact c0, by rw [Nat.zero_add]; exact c1, by rw [Nat.zero_add]; exact c2, by rw [Nat.zero_add]; exact c3⟩
theorem from_symv (w : World) (k yb yl yd : Int) (t : TypeId) : From (w.alloc (.cells #[.int .i64 k, .int .u8 yb, .int .i64 yl, .int .i64 yd] t)) (some ⟨w.heap.size, 0, none⟩) 1 1 4 (symcs [⟨k, yb, yl, yd⟩]) := by
  refine ⟨by rw [symcs_len]; rfl, .inr ⟨_, rfl, fun j u hu => ?_⟩⟩
  rw [symcs_one] at hu
  rw [addk, Nat.zero_add, World.cell?, heap_alloc_new]
  simpa [symc] using hu
end Go.Proofs.YtoeimahlielklaaDoor
