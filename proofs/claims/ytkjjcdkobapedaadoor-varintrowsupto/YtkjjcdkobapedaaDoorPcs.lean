/- Lists of bytes, each whole in a block of its own ('Pcs'), and what is known of them while they are marked; of no statement by themselves. -/
import Derived.Test.YtkjjcdkobapedaaDoorTail
import Derived.Laws.OwnMore
namespace Go.Proofs.YtkjjcdkobapedaaDoor
open Go.RowKit

/-- A list that fills its block, as a value. -/
def pcell (p : Nat × Nat) : Value := .slice (some ⟨p.1, 0, none⟩) p.2 p.2

/-- Each list lies whole in its block. -/
def Pcs (B : Nat) (w : World) (ps : List (Nat × Nat)) (F : Nat → List Int) : Prop :=
  ∀ (i : Nat) (p : Nat × Nat), ps[i]? = some p → B ≤ p.1 ∧ (F i).length = p.2 ∧ w.heap[p.1]? = some (.cells (cells8 (F i)).toArray 5 (0, 0))

/-- No two lie in one block. -/
def Inj (ps : List (Nat × Nat)) : Prop := ∀ (i j : Nat) (p q : Nat × Nat), ps[i]? = some p → ps[j]? = some q → p.1 = q.1 → i = j

theorem Pcs.keep {B : Nat} {w w' : World} {ps : List (Nat × Nat)} {F : Nat → List Int} {S : Nat → Prop} (h : Pcs B w ps F) (hc : Chg S w w') (hS : ∀ (i : Nat) (p : Nat × Nat), ps[i]? = some p → ¬ S p.1) : Pcs B w' ps F := fun i p e => by
  obtain ⟨a, b, c⟩ := h i p e
  exact ⟨a, b, blk_keep c hc (hS i p e)⟩
theorem Pcs.new {B : Nat} {w w' : World} {ps : List (Nat × Nat)} {F : Nat → List Int} (h : Pcs B w ps F) (hc : Chg (fun _ => False) w w') : Pcs B w' ps F := h.keep hc (fun _ _ _ f => f)

/-- The list of the lists is none of them: its cells are of another type. -/
theorem Pcs.ne {B C : Nat} {w : World} {ps : List (Nat × Nat)} {F : Nat → List Int} (h : Pcs B w ps F) {v : Value} {n : Nat} {xs : List Value} (ho : w.ownsRow C 24 1 v n xs) {i : Nat} {p : Nat × Nat} (e : ps[i]? = some p) : v.ownBlock ≠ some p.1 := fun hb => by
  obtain ⟨cur, hc⟩ := ownsRow_blk ho hb
  rw [(h i p e).2.2] at hc
  simp at hc

theorem Pcs.set {B : Nat} {w : World} {ps : List (Nat × Nat)} {F : Nat → List Int} (h : Pcs B w ps F) (hj : Inj ps) {k : Nat} {p : Nat × Nat} (e : ps[k]? = some p) (q : Nat) (u : Int) :
    Pcs B (w.setCell ⟨p.1, q, none⟩ (.int .u8 u)) ps (fun j => if j = k then (F k).set q u else F j) := fun i r ei => by
  obtain ⟨a, b, c⟩ := h i r ei
  by_cases hik : i = k
  · subst hik
    rw [e] at ei
    simp only [Option.some.injEq] at ei
    subst ei
    refine ⟨a, by simpa using b, ?_⟩
    rw [blk_setk c q]
    simp [cells8, List.map_set]
  · refine ⟨a, by simpa [hik] using b, ?_⟩
    have hne : r.1 ≠ p.1 := fun f => hik (hj i k r p ei e f)
    have := ((Chg.refl (fun b => b = p.1) w).setCell (p := ⟨p.1, q, none⟩) (.inl rfl) (.int .u8 u))
    simpa [hik] using blk_keep c this hne

/-- Behind k lists that are written full. -/
def Mk1 (B : Nat) (ps : List (Nat × Nat)) (av : Value) (w0 : World) (k : Nat) (w : World) : Prop :=
  ∃ F, Pcs B w ps F ∧ (∀ (j : Nat) (p : Nat × Nat), j < k → ps[j]? = some p → F j = List.replicate p.2 (mk j)) ∧ w.ownsRow B 24 1 av ps.length (ps.map pcell) ∧ Chg (fun b => B ≤ b) w0 w

/-- Behind q bytes of the list number k. -/
def Mk2 (B : Nat) (ps : List (Nat × Nat)) (av : Value) (w0 : World) (k q : Nat) (w : World) : Prop :=
  ∃ F, Pcs B w ps F ∧ (∀ (j : Nat) (p : Nat × Nat), j < k → ps[j]? = some p → F j = List.replicate p.2 (mk j)) ∧ (∀ t, t < q → (F k)[t]? = some (mk k)) ∧ w.ownsRow B 24 1 av ps.length (ps.map pcell) ∧ Chg (fun b => B ≤ b) w0 w

theorem Mk1.start {B : Nat} {ps : List (Nat × Nat)} {av : Value} {w0 w : World} {k : Nat} (h : Mk1 B ps av w0 k w) : Mk2 B ps av w0 k 0 w := by
  obtain ⟨F, a, b, c, d⟩ := h
  exact ⟨F, a, b, fun t ht => by omega, c, d⟩

theorem Mk2.step {B : Nat} {ps : List (Nat × Nat)} {av : Value} {w0 w : World} {k q : Nat} (h : Mk2 B ps av w0 k q w) (hj : Inj ps) {p : Nat × Nat} (e : ps[k]? = some p) (hq : q < p.2) :
    Mk2 B ps av w0 k (q + 1) (w.setCell ⟨p.1, q, none⟩ (.int .u8 (mk k))) := by
  obtain ⟨F, a, b, c, d, f⟩ := h
  refine ⟨_, a.set hj e q (mk k), fun j r hjk er => ?_, fun t ht => ?_, ?_, f.setCell (.inl (a k p e).1) _⟩
  · rw [if_neg (by omega)]
    exact b j r hjk er
  · rw [if_pos rfl]
    have hl := (a k p e).2.1
    by_cases et : q = t
    · subst et
      rw [List.getElem?_set_self (by omega)]
    · rw [List.getElem?_set_ne et]
      exact c t (by omega)
  · exact ownsRow_keep d ((Chg.refl (fun b => b = p.1) w).setCell (p := ⟨p.1, q, none⟩) (.inl rfl) _) (fun g hg f => a.ne d e (by rw [hg, f]))

theorem Mk2.done {B : Nat} {ps : List (Nat × Nat)} {av : Value} {w0 w : World} {k : Nat} {p : Nat × Nat} (h : Mk2 B ps av w0 k p.2 w) (e : ps[k]? = some p) : Mk1 B ps av w0 (k + 1) w := by
  obtain ⟨F, a, b, c, d, f⟩ := h
  refine ⟨F, a, fun j r hj er => ?_, d, f⟩
  by_cases ejk : j = k
  · subst ejk
    rw [e] at er
    simp only [Option.some.injEq] at er
    subst er
    have hl := (a j p e).2.1
    apply List.ext_getElem?
    intro t
    by_cases ht : t < p.2
    · rw [c t ht]; simp [ht]
    · rw [List.getElem?_eq_none (by omega), List.getElem?_eq_none (by simp; omega)]
  · exact b j r (by omega) er

/-- What the walk reads and writes at one byte. -/
theorem Mk2.at {B : Nat} {ps : List (Nat × Nat)} {ga cap : Nat} {w0 w : World} {k q : Nat} (h : Mk2 B ps (.slice (some ⟨ga, 0, none⟩) ps.length cap) w0 k q w) {p : Nat × Nat} (e : ps[k]? = some p) (hq : q < p.2) :
    w.cell? ⟨ga, k, none⟩ = some (.slice (some ⟨p.1, 0, none⟩) p.2 p.2) ∧ (∃ u, w.cell? ⟨p.1, q, none⟩ = some (.int .u8 u)) ∧ w.frozen? ⟨p.1, q, none⟩ = false := by
  obtain ⟨F, a, b, c, d, f⟩ := h
  obtain ⟨_, hl, hb⟩ := a k p e
  have hk : k < ps.length := (List.getElem?_eq_some_iff.1 e).1
  refine ⟨?_, ⟨(F k)[q]'(by omega), ?_⟩, by simp [World.frozen?, hb]⟩
  · rw [d.cellAt k (by omega), List.getElem?_map, e]
    rfl
  · rw [cell_of_row w p.1 q _ 5 (0, 0) hb]
    simp [cells8, show q < (F k).length by omega]

theorem Mk1.cell {B : Nat} {ps : List (Nat × Nat)} {ga cap : Nat} {w0 w : World} {k j : Nat} (h : Mk1 B ps (.slice (some ⟨ga, 0, none⟩) ps.length cap) w0 k w) {p : Nat × Nat} (e : ps[j]? = some p) : w.cell? ⟨ga, j, none⟩ = some (.slice (some ⟨p.1, 0, none⟩) p.2 p.2) := by
  obtain ⟨F, a, b, d, f⟩ := h
  have hk : j < ps.length := (List.getElem?_eq_some_iff.1 e).1
  rw [d.cellAt j (by omega), List.getElem?_map, e]
  rfl

/-- All lists are written full. -/
theorem Mk1.all {B : Nat} {ps : List (Nat × Nat)} {av : Value} {w0 w : World} (h : Mk1 B ps av w0 ps.length w) : (∀ (j : Nat) (p : Nat × Nat), ps[j]? = some p → B ≤ p.1 ∧ w.heap[p.1]? = some (.cells (cells8 (List.replicate p.2 (mk j))).toArray 5 (0, 0))) ∧ w.ownsRow B 24 1 av ps.length (ps.map pcell) ∧ Chg (fun b => B ≤ b) w0 w := by
  obtain ⟨F, a, b, c, d⟩ := h
  refine ⟨fun j p e => ?_, c, d⟩
  have hk : j < ps.length := (List.getElem?_eq_some_iff.1 e).1
  obtain ⟨x, y, z⟩ := a j p e
  rw [b j p hk e] at z
  exact ⟨x, z⟩

/-- The longer lists, behind k of them. -/
def Lg (N : Nat) (ps : List (Nat × Nat)) (w1 : World) (k : Nat) (lv : Value) (qs : List Value) (w : World) : Prop :=
  qs.length = k ∧ w.ownsRow N 24 1 lv k qs ∧ (∀ (i : Nat) (q : Value) (p : Nat × Nat), qs[i]? = some q → ps[i]? = some p → w.ownsRow N 5 1 q (p.2 + 70) (cells8 (List.replicate p.2 (mk i) ++ List.replicate 70 (tm i)))) ∧ Chg (fun _ => False) w1 w

theorem Lg.new {N : Nat} {ps : List (Nat × Nat)} {w1 w w' : World} {k : Nat} {lv : Value} {qs : List Value} (h : Lg N ps w1 k lv qs w) (hc : Chg (fun _ => False) w w') : Lg N ps w1 k lv qs w' := by
  obtain ⟨a, b, c, d⟩ := h
  exact ⟨a, ownsRow_keep b hc (fun _ _ f => f), fun i q p e f => ownsRow_keep (c i q p e f) hc (fun _ _ f => f), chg_then d hc⟩

theorem own_slice24 {w : World} {B : Nat} {v : Value} {n : Nat} {xs : List Value} (h : w.ownsRow B 24 1 v n xs) : ∃ ad c, v = .slice ad n c ∧ (0 < n → ∃ g, ad = some ⟨g, 0, none⟩) := by
  rcases h.2 with ⟨rfl, rfl⟩ | ⟨g, cap, cur, rfl, _⟩
  · exact ⟨none, 0, rfl, fun h => by omega⟩
  · exact ⟨_, cap, rfl, fun _ => ⟨g, rfl⟩⟩

/-- One more: behind the inner append ('v', in new memory), the new list of one, and the outer append. -/
theorem Lg.more {N : Nat} {ps : List (Nat × Nat)} {w1 w w2 w3 : World} {k : Nat} {lv lv' v : Value} {qs : List Value} {p : Nat × Nat} (h : Lg N ps w1 k lv qs w) (hN : N = w1.heap.size) (ek : ps[k]? = some p)
    (hc : Chg (fun _ => False) w w2) (hv : w2.ownsRow N 5 1 v (p.2 + 70) (cells8 (List.replicate p.2 (mk k) ++ List.replicate 70 (tm k)))) (ho : w3.ownsRow N 24 1 lv' (k + 1) (qs ++ [v])) (hg : w2.grownBy w3 lv.ownBlock) : Lg N ps w1 (k + 1) lv' (qs ++ [v]) w3 := by
  obtain ⟨a, b, c, d⟩ := h.new hc
  have hC : Chg (fun g => lv.ownBlock = some g) w2 w3 := (Chg.refl _ w2).grown hg (fun g e => .inl e)
  have hne : ∀ (q : Value) (n : Nat) (xs : List Value), w2.ownsRow N 5 1 q n xs → ∀ g, q.ownBlock = some g → lv.ownBlock ≠ some g := fun q n xs hq g e f => by
    obtain ⟨c1, h1⟩ := ownsRow_blk hq e
    obtain ⟨c2, h2⟩ := ownsRow_blk b f
    rw [h1] at h2
    simp at h2
  refine ⟨by simp [a], ho, fun i q r eq er => ?_, d.trans hC (fun g e => .inr (by rw [← hN]; exact (b.lt g e).1))⟩
  by_cases hi : i < k
  · rw [List.getElem?_append_left (by omega)] at eq
    exact ownsRow_keep (c i q r eq er) hC (fun g e f => hne q _ _ (c i q r eq er) g e f)
  · have hik : i = k := by
      have := (List.getElem?_eq_some_iff.1 eq).1
      simp [a] at this
      omega
    subst hik
    rw [List.getElem?_append_right (by omega), a] at eq
    simp at eq
    subst eq
    rw [ek] at er
    simp only [Option.some.injEq] at er
    subst er
    exact ownsRow_keep hv hC (fun g e f => hne _ _ _ hv g e f)

theorem own_base {w : World} {B C : Nat} {e : TypeId} {v : Value} {n : Nat} {xs : List Value} (h : w.ownsRow B e 1 v n xs) (hC : C ≤ B) : w.ownsRow C e 1 v n xs := by
  refine ⟨h.1, ?_⟩
  rcases h.2 with a | ⟨g, cap, cur, rfl, hb, rest⟩
  · exact .inl a
  · exact .inr ⟨g, cap, cur, rfl, Nat.le_trans hC hb, rest⟩

theorem cell_new {w w' : World} (hc : Chg (fun _ => False) w w') {a : Addr} {u : Value} (h : w.cell? a = some u) : w'.cell? a = some u := by
  rw [World.cell?_of_block (w := w) (hc.block _ (World.block_lt_of_cell? w _ h) (fun f => f))]
  exact h

theorem from_one (w : World) (v : Value) (t : TypeId) : From (w.alloc (.cells #[v] t)) (some ⟨w.heap.size, 0, none⟩) 1 1 1 [v] := by
  refine ⟨rfl, .inr ⟨_, rfl, fun j u hu => ?_⟩⟩
  match j, hu with
  | 0, hu => simp at hu; subst hu; simp [Addr.add]

end Go.Proofs.YtkjjcdkobapedaaDoor
