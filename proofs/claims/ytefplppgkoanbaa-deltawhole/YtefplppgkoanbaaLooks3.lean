/- What is known of the book while it is looked at, and small laws on it; of no statement by themselves. -/
import Derived.Test.YtefplppgkoanbaaBook3
namespace Go.Proofs.Ytefplppgkoanbaa.Bk
open Go.RowKit

theorem from_held (w : World) (a : Nat) (ha : a = w.heap.size) (c0 c1 c2 c3 c4 : Value) : From (w.alloc (.cells #[c0, c1, c2, c3, c4] 49)) (some ⟨a, 0, none⟩) 1 1 5 [c0, c1, c2, c3, c4] := by
  subst ha
  refine ⟨rfl, .inr ⟨_, rfl, fun j u hu => ?_⟩⟩
  have hadd : (⟨w.heap.size, 0, none⟩ : Addr).add j = ⟨w.heap.size, j, none⟩ := by unfold Addr.add; split <;> simp_all
  rw [hadd, World.cell?, heap_alloc_new]
  simpa using hu

theorem held_one (v : Value) (n mark : Int) (want : ByteArray) (kept : Bool) (a : Option Addr) (l c : Nat) (hv : v = .slice a l c) : ∀ u ∈ [v, .int .i64 n, .int .u8 mark, .string want, .bool kept], u.oneCell' = true := by
  subst hv
  intro u hu
  simp at hu
  rcases hu with rfl | rfl | rfl | rfl | rfl <;> rfl

/-- What a list is when the book is handed over. -/
def Hd.ok (h : Hd) : Prop := (h.kept = true ∧ h.ys.length = h.n ∧ h.want = strOfNums h.ys) ∨ (h.kept = false ∧ h.ys = List.replicate (h.n + 3) h.mark)
/-- What it is when those that were left are written full. -/
def Hd.full (h : Hd) : Prop := (h.kept = true ∧ h.ys = List.replicate h.n h.mark) ∨ (h.kept = false ∧ h.ys = List.replicate (h.n + 3) h.mark)
/-- What it is at the end. -/
def Hd.done (h : Hd) : Prop := h.ys = List.replicate (h.n + 3) h.mark

/-- The book and its lists while it is looked at: those ahead of number k are as P says, the others as Q says. -/
structure Looks (T : Nat → Prop) (B N : Nat) (lv : Value) (P Q : Hd → Prop) (w0 : World) (len k : Nat) (cur : List Hd) (w : World) : Prop where
  size : cur.length = len
  book : w.ownsRow N 49 5 lv len (hcells cur)
  rows : RowsIn B w cur
  apart : Apart cur
  ahead : ∀ (i : Nat) (h : Hd), cur[i]? = some h → i < k → P h
  behind : ∀ (i : Nat) (h : Hd), cur[i]? = some h → k ≤ i → Q h
  small : ∀ (i : Nat) (h : Hd), cur[i]? = some h → h.n ≤ 140737488351232
  chg : Chg T w0 w
  into : ∀ (i : Nat) (h : Hd), cur[i]? = some h → ∀ g, h.v.ownBlock = some g → T g ∨ w0.heap.size ≤ g

theorem Looks.new {T : Nat → Prop} {B N : Nat} {lv : Value} {P Q : Hd → Prop} {w0 : World} {len k : Nat} {cur : List Hd} {w w' : World} (h : Looks T B N lv P Q w0 len k cur w) (hc : Chg (fun _ => False) w w') : Looks T B N lv P Q w0 len k cur w' :=
  ⟨h.size, own_keep h.book hc (fun _ _ f => f), rows_new h.rows hc, h.apart, h.ahead, h.behind, h.small, chg_then h.chg hc, h.into⟩

/-- A list that need not be touched. -/
theorem Looks.pass {T : Nat → Prop} {B N : Nat} {lv : Value} {P Q : Hd → Prop} {w0 : World} {len k : Nat} {cur : List Hd} {w : World} {a : Hd} (h : Looks T B N lv P Q w0 len k cur w) (hk : cur[k]? = some a) (hp : P a) : Looks T B N lv P Q w0 len (k + 1) cur w :=
  ⟨h.size, h.book, h.rows, h.apart, fun i b e hi => by
    by_cases ek : i = k
    · subst ek; rw [hk] at e; simp at e; subst e; exact hp
    · exact h.ahead i b e (by omega), fun i b e hi => h.behind i b e (by omega), h.small, h.chg, h.into⟩

theorem set_get {cur : List Hd} {k : Nat} {a' : Hd} (hlt : k < cur.length) (i : Nat) (b : Hd) (e : (cur.set k a')[i]? = some b) : i = k ∧ b = a' ∨ i ≠ k ∧ cur[i]? = some b := by
  by_cases ek : k = i
  · subst ek
    rw [List.getElem?_set_self hlt] at e
    exact .inl ⟨rfl, by simpa using e.symm⟩
  · rw [List.getElem?_set_ne ek] at e
    exact .inr ⟨fun f => ek f.symm, e⟩

/-- A list whose row was written where it lies. -/
theorem Looks.wrote {T : Nat → Prop} {B N : Nat} {lv : Value} {P Q : Hd → Prop} {w0 : World} {len k : Nat} {cur : List Hd} {w w' : World} {a a' : Hd} (h : Looks T B N lv P Q w0 len k cur w) (hk : cur[k]? = some a)
    (hc : Chg (fun b => a.v.ownBlock = some b) w w') (hr : Row B w' a') (hcell : a'.cells = a.cells) (hv : a'.v = a.v) (hn : a'.n = a.n) (hp : P a') : Looks T B N lv P Q w0 len (k + 1) (cur.set k a') w' := by
  obtain ⟨hlt, _⟩ := List.getElem?_eq_some_iff.1 hk
  obtain ⟨hr', ha'⟩ := rows_upd h.rows h.apart hk hc hr (by rw [hv]; exact Moved.refl _ _)
  have hbn : ∀ g, lv.ownBlock = some g → a.v.ownBlock ≠ some g := fun g hg e => by
    obtain ⟨c1, h1⟩ := own_blk h.book hg
    obtain ⟨c2, h2⟩ := own_blk (h.rows k a hk) e
    rw [h1] at h2
    simp at h2
  refine ⟨by simp [h.size], ?_, hr', ha', fun i b e hi => ?_, fun i b e hi => ?_, fun i b e => ?_, h.chg.trans hc (fun b e => h.into k a hk b e), fun i b e g hg => ?_⟩
  · rw [hcells_set_same cur k a a' hk hcell]
    exact own_keep h.book hc (fun g hg f => hbn g hg f)
  · rcases set_get hlt i b e with ⟨rfl, rfl⟩ | ⟨hne, e'⟩
    · exact hp
    · exact h.ahead i b e' (by omega)
  · rcases set_get hlt i b e with ⟨rfl, rfl⟩ | ⟨hne, e'⟩
    · omega
    · exact h.behind i b e' (by omega)
  · rcases set_get hlt i b e with ⟨rfl, rfl⟩ | ⟨hne, e'⟩
    · rw [hn]; exact h.small _ a hk
    · exact h.small i b e'
  · rcases set_get hlt i b e with ⟨rfl, rfl⟩ | ⟨hne, e'⟩
    · rw [hv] at hg; exact h.into _ a hk g hg
    · exact h.into i b e' g hg

/-- A list that was lengthened, and its entry in the book written anew. -/
theorem Looks.grew {T : Nat → Prop} {B N g cap : Nat} {P Q : Hd → Prop} {w0 : World} {len k : Nat} {cur : List Hd} {w w' : World} {a a' : Hd} (h : Looks T B N (.slice (some ⟨g, 0, none⟩) len cap) P Q w0 len k cur w) (hk : cur[k]? = some a) (hN : w0.heap.size ≤ N)
    (hc : Chg (fun b => a.v.ownBlock = some b) w w') (hm : Moved w a.v a'.v) (hr : Row B w' a') (hn : a'.n = a.n) (hp : P a') :
    Looks T B N (.slice (some ⟨g, 0, none⟩) len cap) P Q w0 len (k + 1) (cur.set k a') (((((w'.setCell ⟨g, k * 5, none⟩ a'.v).setCell ⟨g, k * 5 + 1, none⟩ (.int .i64 a'.n)).setCell ⟨g, k * 5 + 2, none⟩ (.int .u8 a'.mark)).setCell ⟨g, k * 5 + 3, none⟩ (.string a'.want)).setCell ⟨g, k * 5 + 4, none⟩ (.bool a'.kept)) := by
  obtain ⟨hlt, _⟩ := List.getElem?_eq_some_iff.1 hk
  obtain ⟨hr', ha'⟩ := rows_upd h.rows h.apart hk hc hr hm
  have hbn : a.v.ownBlock ≠ some g := fun e => by
    obtain ⟨c1, h1⟩ := own_blk h.book (g := g) rfl
    obtain ⟨c2, h2⟩ := own_blk (h.rows k a hk) e
    rw [h1] at h2
    simp at h2
  have hbk := own_keep h.book hc (fun g' hg' f => hbn (by simp [Value.ownBlock] at hg'; rw [hg']; exact f))
  have hg : N ≤ g := (h.book.lt g rfl).1
  have hC : Chg (fun b => b = g) w' (((((w'.setCell ⟨g, k * 5, none⟩ a'.v).setCell ⟨g, k * 5 + 1, none⟩ (.int .i64 a'.n)).setCell ⟨g, k * 5 + 2, none⟩ (.int .u8 a'.mark)).setCell ⟨g, k * 5 + 3, none⟩ (.string a'.want)).setCell ⟨g, k * 5 + 4, none⟩ (.bool a'.kept)) :=
    (((((Chg.refl (fun b => b = g) w').setCell (p := ⟨g, k * 5, none⟩) (.inl rfl) _).setCell (p := ⟨g, k * 5 + 1, none⟩) (.inl rfl) _).setCell (p := ⟨g, k * 5 + 2, none⟩) (.inl rfl) _).setCell (p := ⟨g, k * 5 + 3, none⟩) (.inl rfl) _).setCell (p := ⟨g, k * 5 + 4, none⟩) (.inl rfl) _
  have hgn : ∀ (i : Nat) (b : Hd), (cur.set k a')[i]? = some b → b.v.ownBlock ≠ some g := fun i b e f => by
    obtain ⟨c1, h1⟩ := own_blk hbk (g := g) rfl
    obtain ⟨c2, h2⟩ := own_blk (hr' i b e) f
    rw [h1] at h2
    simp at h2
  refine ⟨by simp [h.size], ?_, rows_keep hr' hC (fun i b e g' hg' f => hgn i b e (by rw [hg', f])), ha', fun i b e hi => ?_, fun i b e hi => ?_, fun i b e => ?_, ?_, fun i b e g' hg' => ?_⟩
  · rw [← hcells_set cur k a' hlt _ _ _ _ _ rfl]
    exact (((((hbk.stored (k * 5) _).1.stored (k * 5 + 1) _).1.stored (k * 5 + 2) _).1.stored (k * 5 + 3) _).1.stored (k * 5 + 4) _).1
  · rcases set_get hlt i b e with ⟨rfl, rfl⟩ | ⟨hne, e'⟩
    · exact hp
    · exact h.ahead i b e' (by omega)
  · rcases set_get hlt i b e with ⟨rfl, rfl⟩ | ⟨hne, e'⟩
    · omega
    · exact h.behind i b e' (by omega)
  · rcases set_get hlt i b e with ⟨rfl, rfl⟩ | ⟨hne, e'⟩
    · rw [hn]; exact h.small _ a hk
    · exact h.small i b e'
  · exact (h.chg.trans hc (fun b e => h.into k a hk b e)).trans hC (fun b e => .inr (by omega))
  · rcases set_get hlt i b e with ⟨rfl, rfl⟩ | ⟨hne, e'⟩
    · rcases hm g' hg' with f | f
      · exact h.into _ a hk g' f
      · have := h.chg.size
        exact .inr (by omega)
    · exact h.into i b e' g' hg'

theorem hcells_snoc (hs : List Hd) (k : Nat) (h : Hd) (hk : hs[k]? = some h) : hcells (hs.take (k + 1)) = hcells (hs.take k) ++ h.cells := by
  obtain ⟨hlt, rfl⟩ := List.getElem?_eq_some_iff.1 hk
  rw [List.take_succ_eq_append_getElem hlt, hcells_append]
  simp [hcells]

theorem book_form {w : World} {B : Nat} {v : Value} {n : Nat} {xs : List Value} (h : w.ownsRow B 49 5 v n xs) : ∃ la lc, v = .slice la n lc ∧ (0 < n → ∃ g, la = some ⟨g, 0, none⟩) := by
  rcases book_shape h with ⟨rfl, e⟩ | ⟨g, cap, rfl⟩
  · exact ⟨none, 0, by rw [e], fun f => by omega⟩
  · exact ⟨_, cap, rfl, fun _ => ⟨g, rfl⟩⟩

/-- One entry of the book while it is looked at. -/
theorem Looks.entry {T : Nat → Prop} {B N g cap : Nat} {P Q : Hd → Prop} {w0 : World} {len k : Nat} {cur : List Hd} {w : World} (h : Looks T B N (.slice (some ⟨g, 0, none⟩) len cap) P Q w0 len k cur w) (i : Nat) (hi : i < len) :
    ∃ a va vc, cur[i]? = some a ∧ a.v = .slice va a.ys.length vc ∧ Row B w a ∧ w.cell? ⟨g, i * 5, none⟩ = some (.slice va a.ys.length vc) ∧ w.cell? ⟨g, i * 5 + 1, none⟩ = some (.int .i64 a.n) ∧ w.cell? ⟨g, i * 5 + 2, none⟩ = some (.int .u8 a.mark) ∧ w.cell? ⟨g, i * 5 + 3, none⟩ = some (.string a.want) ∧ w.cell? ⟨g, i * 5 + 4, none⟩ = some (.bool a.kept) := by
  have hsz := h.size
  subst hsz
  have hk : cur[i]? = some cur[i] := List.getElem?_eq_getElem hi
  obtain ⟨va, vc, hva, _⟩ := own_row8 (h.rows i _ hk)
  obtain ⟨c0, c1, c2, c3, c4⟩ := book_cells h.book i _ hk
  rw [hva] at c0
  exact ⟨_, va, vc, hk, hva, h.rows i _ hk, c0, c1, c2, c3, c4⟩

/-- The entry's cells behind a call that turned the list's row alone; they may be written. -/
theorem Looks.entry_after {T : Nat → Prop} {B N g cap : Nat} {P Q : Hd → Prop} {w0 : World} {len k : Nat} {cur : List Hd} {w w' : World} {a : Hd} (h : Looks T B N (.slice (some ⟨g, 0, none⟩) len cap) P Q w0 len k cur w) (i : Nat) (hk : cur[i]? = some a)
    (hc : Chg (fun b => a.v.ownBlock = some b) w w') :
    (w'.cell? ⟨g, i * 5, none⟩ = some a.v ∧ w'.cell? ⟨g, i * 5 + 1, none⟩ = some (.int .i64 a.n) ∧ w'.cell? ⟨g, i * 5 + 2, none⟩ = some (.int .u8 a.mark) ∧ w'.cell? ⟨g, i * 5 + 3, none⟩ = some (.string a.want) ∧ w'.cell? ⟨g, i * 5 + 4, none⟩ = some (.bool a.kept)) ∧ ∀ j, w'.frozen? ⟨g, j, none⟩ = false := by
  have hsz := h.size
  subst hsz
  have hbn : a.v.ownBlock ≠ some g := fun e => by
    obtain ⟨c1, h1⟩ := own_blk h.book (g := g) rfl
    obtain ⟨c2, h2⟩ := own_blk (h.rows i a hk) e
    rw [h1] at h2
    simp at h2
  have hbk := own_keep h.book hc (fun g' hg' f => hbn (by simp [Value.ownBlock] at hg'; rw [hg']; exact f))
  exact ⟨book_cells hbk i a hk, fun j => hbk.frozenAt j⟩

theorem chg_eq {v v' : Value} {w w' : World} (e : v = v') (h : Chg (fun b => v'.ownBlock = some b) w w') : Chg (fun b => v.ownBlock = some b) w w' := by subst e; exact h
theorem moved_eq {v v' u : Value} {w : World} (e : v = v') (h : Moved w v' u) : Moved w v u := by subst e; exact h
end Go.Proofs.Ytefplppgkoanbaa.Bk
