/- FinderWays' state: boxes, two finders, an iterator, a list of matches; and the law of a range with one end; of no statement by themselves. -/
import Derived.Test.YtkdionoelbiidaaFg
import Derived.Test.YtkdionoelbiidaaFj
namespace Go.Proofs.Ytkdionoelbiidaa
open Go.RowKit
set_option linter.unusedVariables false
variable {Γ : Type} {le : Γ → Γ → Prop} {foot : Γ → Nat → Prop} {mp : Γ → Nat} {Fin : Γ → World → Nat → Nat → List Nat → Nat → Nat → Prop} {Sq : World → Value → (Nat → Prop) → Nat → Int → Prop}

/-- Boxes of one cell each. -/
abbrev BoxL := List (Nat × TypeId × Value)
def On (l : BoxL) (z : Nat) : Prop := ∃ (i : Nat) (e : Nat × TypeId × Value), l[i]? = some e ∧ e.1 = z
def Boxes (W : World) (l : BoxL) : Prop := (∀ (i j : Nat) (e f : Nat × TypeId × Value), l[i]? = some e → l[j]? = some f → i ≠ j → e.1 ≠ f.1) ∧ ∀ (i : Nat) (e : Nat × TypeId × Value), l[i]? = some e → W.heap[e.1]? = some (.cells #[e.2.2] e.2.1 (0, 0))
theorem Boxes.nil (W : World) : Boxes W [] := ⟨fun i j e f h => by simp at h, fun i e h => by simp at h⟩
theorem Boxes.keep {S : Nat → Prop} {W W' : World} {l : BoxL} (h : Boxes W l) (hc : Chg S W W') (hS : ∀ z, On l z → ¬ S z) : Boxes W' l := ⟨h.1, fun i e he => blk_keep (h.2 i e he) hc (hS _ ⟨i, e, he, rfl⟩)⟩
theorem Boxes.lt {W : World} {l : BoxL} (h : Boxes W l) {z : Nat} (hz : On l z) : z < W.heap.size := by
  obtain ⟨i, e, h1, rfl⟩ := hz
  exact lt_of_blk (h.2 i e h1)
theorem Boxes.get {W : World} {l : BoxL} (h : Boxes W l) (i : Nat) {z : Nat} {t : TypeId} {v : Value} (hi : l[i]? = some (z, t, v)) : W.cell? ⟨z, 0, none⟩ = some v ∧ W.frozen? ⟨z, 0, none⟩ = false := cells1 (h.2 i _ hi)
theorem on_set {l : BoxL} {i z : Nat} {t : TypeId} {v : Value} (u : Value) (hi : l[i]? = some (z, t, v)) {x : Nat} (h : On (l.set i (z, t, u)) x) : On l x := by
  obtain ⟨j, e, h1, rfl⟩ := h
  by_cases hj : i = j
  · subst hj
    rw [List.getElem?_set_self (List.getElem?_eq_some_iff.1 hi).1] at h1
    cases h1
    exact ⟨i, _, hi, rfl⟩
  · rw [List.getElem?_set_ne hj] at h1
    exact ⟨j, e, h1, rfl⟩
theorem chg_cell (W : World) (z : Nat) (u : Value) : Chg (fun x => x = z) W (W.setCell ⟨z, 0, none⟩ u) := (Chg.refl (fun x => x = z) W).setCell (p := ⟨z, 0, none⟩) (.inl rfl) _
theorem Boxes.set {W : World} {l : BoxL} (h : Boxes W l) (i : Nat) {z : Nat} {t : TypeId} {v : Value} (hi : l[i]? = some (z, t, v)) (u : Value) : Boxes (W.setCell ⟨z, 0, none⟩ u) (l.set i (z, t, u)) := by
  have hl := (List.getElem?_eq_some_iff.1 hi).1
  have old : ∀ j e, (l.set i (z, t, u))[j]? = some e → (j = i ∧ e = (z, t, u)) ∨ (j ≠ i ∧ l[j]? = some e) := fun j e he => by
    by_cases hj : i = j
    · subst hj
      rw [List.getElem?_set_self hl] at he
      cases he
      exact .inl ⟨rfl, rfl⟩
    · rw [List.getElem?_set_ne hj] at he
      exact .inr ⟨fun e => hj e.symm, he⟩
  refine ⟨fun j k e f he hf hjk => ?_, fun j e he => ?_⟩
  · rcases old j e he with ⟨rfl, rfl⟩ | ⟨h1, h2⟩ <;> rcases old k f hf with ⟨rfl, rfl⟩ | ⟨h3, h4⟩
    · exact absurd rfl hjk
    · exact fun x => h.1 _ _ _ _ hi h4 hjk x
    · exact fun x => h.1 _ _ _ _ h2 hi hjk x
    · exact h.1 _ _ _ _ h2 h4 hjk
  · rcases old j e he with ⟨rfl, rfl⟩ | ⟨h1, h2⟩
    · exact blk_set10 (h.2 _ _ hi)
    · exact blk_keep (h.2 _ _ h2) (chg_cell W z u) (h.1 _ _ _ _ h2 hi h1)
theorem on_add {l : BoxL} {x : Nat × TypeId × Value} {z : Nat} (h : On (l ++ [x]) z) : On l z ∨ z = x.1 := by
  obtain ⟨j, e, h1, rfl⟩ := h
  rcases Nat.lt_or_ge j l.length with hj | hj
  · rw [List.getElem?_append_left hj] at h1
    exact .inl ⟨j, e, h1, rfl⟩
  · rw [List.getElem?_append_right hj] at h1
    rcases hk : j - l.length with _ | k
    · rw [hk] at h1; simp at h1; exact .inr (by rw [h1])
    · rw [hk] at h1; simp at h1
theorem Boxes.add {W : World} {l : BoxL} (h : Boxes W l) (t : TypeId) (v : Value) : Boxes (W.alloc (.cells #[v] t)) (l ++ [(W.heap.size, t, v)]) := by
  have old : ∀ j e, (l ++ [(W.heap.size, t, v)])[j]? = some e → (j = l.length ∧ e = (W.heap.size, t, v)) ∨ (j < l.length ∧ l[j]? = some e) := fun j e h1 => by
    rcases Nat.lt_or_ge j l.length with hj | hj
    · rw [List.getElem?_append_left hj] at h1
      exact .inr ⟨hj, h1⟩
    · rw [List.getElem?_append_right hj] at h1
      rcases hk : j - l.length with _ | k
      · rw [hk] at h1; simp at h1; exact .inl ⟨by omega, h1.symm⟩
      · rw [hk] at h1; simp at h1
  refine ⟨fun j k e f he hf hjk => ?_, fun j e he => ?_⟩
  · rcases old j e he with ⟨h1, rfl⟩ | ⟨h1, h2⟩ <;> rcases old k f hf with ⟨h3, rfl⟩ | ⟨h3, h4⟩
    · omega
    · have := h.lt ⟨_, _, h4, rfl⟩; show W.heap.size ≠ f.1; omega
    · have := h.lt ⟨_, _, h2, rfl⟩; show e.1 ≠ W.heap.size; omega
    · exact h.1 _ _ _ _ h2 h4 hjk
  · rcases old j e he with ⟨h1, rfl⟩ | ⟨h1, h2⟩
    · exact heap_alloc_last _ _
    · exact blk_keep (h.2 _ _ h2) (chg_one W _) (fun f => f)
theorem Boxes.turn {B0 : Nat} {W W' : World} {l : BoxL} (h : Boxes W l) (hc : Turn B0 W W') : Boxes W' l := ⟨h.1, fun i e he => hc.cells (h.2 i e he)⟩
theorem mrow_keep {S : Nat → Prop} {W W' : World} {ad : Option Addr} {ms : List (Nat × Nat)} (h : MRow W ad ms) (hc : Chg S W W') (hS : ∀ g, ad = some ⟨g, 0, none⟩ → ¬ S g) : MRow W' ad ms := fun j m hj => by
  obtain ⟨g, e, h1, h2⟩ := h j m hj
  have h3 := World.block_lt_of_cell? W _ h1
  have h4 := World.block_lt_of_cell? W _ h2
  refine ⟨g, e, ?_, ?_⟩
  · rw [World.cell?_of_block (w := W) (hc.block _ h3 (hS g e))]; exact h1
  · rw [World.cell?_of_block (w := W) (hc.block _ h4 (hS g e))]; exact h2

/-- Two finders beside boxes. -/
structure WB (Fin : Γ → World → Nat → Nat → List Nat → Nat → Nat → Prop) (foot : Γ → Nat → Prop) (w0 : World) (γ δ : Γ) (a b : Nat) (d : List Nat) (p q : Nat) (l : BoxL) (W : World) : Prop where
  bxs : Boxes W l
  two : Two Fin foot w0 W γ δ a b d 4096 4096 p q
  ge : ∀ z, On l z → w0.heap.size ≤ z
  off : ∀ z, On l z → ¬ foot γ z ∧ ¬ foot δ z
section
variable {w0 : World} {γ δ : Γ} {a b : Nat} {d : List Nat} {p q : Nat} {l : BoxL} {W W' : World}
theorem WB.new (S : FinSpec le foot mp Fin Sq) (h : WB Fin foot w0 γ δ a b d p q l W) (hc : Chg (fun _ => False) W W') : WB Fin foot w0 γ δ a b d p q l W' := ⟨h.bxs.keep hc (fun _ _ f => f), h.two.new S hc, h.ge, h.off⟩
theorem WB.turn (S : FinSpec le foot mp Fin Sq) {B0 : Nat} (h : WB Fin foot w0 γ δ a b d p q l W) (hc : Turn B0 W W') (h0 : w0.heap.size ≤ B0) (h1 : mp γ < B0) (h2 : mp δ < B0) : WB Fin foot w0 γ δ a b d p q l W' := ⟨h.bxs.turn hc, ⟨S.turn h.two.f hc h1, S.turn h.two.g hc h2, h.two.ap, h.two.chg.trans hc (fun z f => .inr (Nat.le_trans h0 f.1))⟩, h.ge, h.off⟩
theorem WB.set (S : FinSpec le foot mp Fin Sq) (h : WB Fin foot w0 γ δ a b d p q l W) (i : Nat) {z : Nat} {t : TypeId} {v : Value} (hi : l[i]? = some (z, t, v)) (u : Value) : WB Fin foot w0 γ δ a b d p q (l.set i (z, t, u)) (W.setCell ⟨z, 0, none⟩ u) := by
  have hz : On l z := ⟨i, _, hi, rfl⟩
  have c := chg_cell W z u
  exact ⟨h.bxs.set i hi u, ⟨S.keep h.two.f c (fun x f e => (h.off z hz).1 (by rw [← e]; exact f)), S.keep h.two.g c (fun x f e => (h.off z hz).2 (by rw [← e]; exact f)), h.two.ap, h.two.chg.trans c (fun x e => .inr (by rw [e]; exact h.ge z hz))⟩, fun x f => h.ge x (on_set u hi f), fun x f => h.off x (on_set u hi f)⟩
theorem WB.add (S : FinSpec le foot mp Fin Sq) (h : WB Fin foot w0 γ δ a b d p q l W) (t : TypeId) (v : Value) : WB Fin foot w0 γ δ a b d p q (l ++ [(W.heap.size, t, v)]) (W.alloc (.cells #[v] t)) := by
  refine ⟨h.bxs.add t v, h.two.new S (chg_one W _), fun z f => ?_, fun z f => ?_⟩
  · rcases on_add f with f | f
    · exact h.ge z f
    · rw [f]; exact h.two.chg.size
  · rcases on_add f with f | f
    · exact h.off z f
    · subst f
      exact ⟨fun e => by have := (S.lt h.two.f _ e).2; simp at this, fun e => by have := (S.lt h.two.g _ e).2; simp at this⟩
theorem WB.left (S : FinSpec le foot mp Fin Sq) {γ' : Γ} {p' : Nat} (h : WB Fin foot w0 γ δ a b d p q l W) (hf : Fwd le foot γ γ' W W') (hn : Fin γ' W' w0.heap.size a d 4096 p') : WB Fin foot w0 γ' δ a b d p' q l W' :=
  ⟨h.bxs.keep hf.chg (fun z f => (h.off z f).1), h.two.left S hf hn, h.ge, fun z f => ⟨fun e => by
    rcases hf.grow z e with e | e
    · exact (h.off z f).1 e
    · have := h.bxs.lt f; omega, (h.off z f).2⟩⟩
theorem WB.right (S : FinSpec le foot mp Fin Sq) {δ' : Γ} {q' : Nat} (h : WB Fin foot w0 γ δ a b d p q l W) (hf : Fwd le foot δ δ' W W') (hn : Fin δ' W' w0.heap.size b d 4096 q') : WB Fin foot w0 γ δ' a b d p q' l W' :=
  ⟨h.bxs.keep hf.chg (fun z f => (h.off z f).2), h.two.right S hf hn, h.ge, fun z f => ⟨(h.off z f).1, fun e => by
    rcases hf.grow z e with e | e
    · exact (h.off z f).2 e
    · have := h.bxs.lt f; omega⟩⟩
end
/-- With an iterator of the first and a list of matches. -/
structure WS (Fin : Γ → World → Nat → Nat → List Nat → Nat → Nat → Prop) (Sq : World → Value → (Nat → Prop) → Nat → Int → Prop) (foot : Γ → Nat → Prop) (w0 : World) (γ δ : Γ) (a b : Nat) (d : List Nat) (p q : Nat) (sv : Value) (sf Ns : Nat → Prop) (wa : Option Addr) (ms : List (Nat × Nat)) (l : BoxL) (W : World) : Prop where
  wb : WB Fin foot w0 γ δ a b d p q l W
  row : MRow W wa ms
  sq : Sq W sv sf a 273
  off : ∀ z, (sf z ∨ Ns z ∨ wa = some ⟨z, 0, none⟩) → z < W.heap.size ∧ ¬ foot γ z ∧ ¬ On l z
section
variable {w0 : World} {γ δ : Γ} {a b : Nat} {d : List Nat} {p q : Nat} {sv : Value} {sf Ns Ns' : Nat → Prop} {wa : Option Addr} {ms : List (Nat × Nat)} {l : BoxL} {W W' : World}
theorem WS.turn (S : FinSpec le foot mp Fin Sq) {B0 : Nat} (h : WS Fin Sq foot w0 γ δ a b d p q sv sf Ns wa ms l W) (hc : Turn B0 W W') (h0 : w0.heap.size ≤ B0) (h1 : mp γ < B0) (h2 : mp δ < B0) : WS Fin Sq foot w0 γ δ a b d p q sv sf Ns wa ms l W' :=
  ⟨h.wb.turn S hc h0 h1 h2, mrow_turn h.row hc, S.sqTurn h.sq hc, fun z f => ⟨Nat.lt_of_lt_of_le (h.off z f).1 hc.size, (h.off z f).2⟩⟩
theorem WS.new (S : FinSpec le foot mp Fin Sq) (h : WS Fin Sq foot w0 γ δ a b d p q sv sf Ns wa ms l W) (hc : Chg (fun _ => False) W W') : WS Fin Sq foot w0 γ δ a b d p q sv sf Ns wa ms l W' :=
  ⟨h.wb.new S hc, h.row.new hc, S.sqNew h.sq hc, fun z f => ⟨Nat.lt_of_lt_of_le (h.off z f).1 hc.size, (h.off z f).2⟩⟩
theorem WS.set (S : FinSpec le foot mp Fin Sq) (h : WS Fin Sq foot w0 γ δ a b d p q sv sf Ns wa ms l W) (i : Nat) {z : Nat} {t : TypeId} {v : Value} (hi : l[i]? = some (z, t, v)) (u : Value) : WS Fin Sq foot w0 γ δ a b d p q sv sf Ns wa ms (l.set i (z, t, u)) (W.setCell ⟨z, 0, none⟩ u) := by
  have hz : On l z := ⟨i, _, hi, rfl⟩
  have c := chg_cell W z u
  exact ⟨h.wb.set S i hi u, mrow_keep h.row c (fun g e f => (h.off g (.inr (.inr e))).2.2 (by rw [f]; exact hz)), S.sqKeep h.sq c (fun x f e => (h.off x (.inl f)).2.2 (by rw [e]; exact hz)), fun x f => ⟨Nat.lt_of_lt_of_le (h.off x f).1 c.size, (h.off x f).2.1, fun g => (h.off x f).2.2 (on_set u hi g)⟩⟩
theorem WS.add (S : FinSpec le foot mp Fin Sq) (h : WS Fin Sq foot w0 γ δ a b d p q sv sf Ns wa ms l W) (t : TypeId) (v : Value) : WS Fin Sq foot w0 γ δ a b d p q sv sf Ns wa ms (l ++ [(W.heap.size, t, v)]) (W.alloc (.cells #[v] t)) := by
  have c := chg_one W (.cells #[v] t)
  refine ⟨h.wb.add S t v, h.row.new c, S.sqNew h.sq c, fun x f => ⟨Nat.lt_of_lt_of_le (h.off x f).1 c.size, (h.off x f).2.1, fun g => ?_⟩⟩
  rcases on_add g with g | g
  · exact (h.off x f).2.2 g
  · have := (h.off x f).1; omega
theorem WS.skip (S : FinSpec le foot mp Fin Sq) {γ' : Γ} {p' : Nat} (h : WS Fin Sq foot w0 γ δ a b d p q sv sf Ns wa ms l W) (hf : Fwd le foot γ γ' W W') (hn : Fin γ' W' w0.heap.size a d 4096 p') : WS Fin Sq foot w0 γ' δ a b d p' q sv sf Ns wa ms l W' :=
  ⟨h.wb.left S hf hn, mrow_keep h.row hf.chg (fun g e => (h.off g (.inr (.inr e))).2.1), S.sqKeep h.sq hf.chg (fun z f => (h.off z (.inl f)).2.1), fun z f => ⟨Nat.lt_of_lt_of_le (h.off z f).1 hf.chg.size, fun e => by
    rcases hf.grow z e with e | e
    · exact (h.off z f).2.1 e
    · have := (h.off z f).1; omega, (h.off z f).2.2⟩⟩
theorem WS.get (h : WS Fin Sq foot w0 γ δ a b d p q sv sf Ns wa ms l W) (i : Nat) {z : Nat} {t : TypeId} {v : Value} (hi : l[i]? = some (z, t, v)) : W.cell? ⟨z, 0, none⟩ = some v ∧ W.frozen? ⟨z, 0, none⟩ = false := h.wb.bxs.get i hi
theorem WS.calm (h : WS Fin Sq foot w0 γ δ a b d p q sv sf Ns wa ms l W) (i : Nat) {z : Nat} {t : TypeId} {v : Value} (hi : l[i]? = some (z, t, v)) (B : Nat) (u : Value) : Calm Ns B W (W.setCell ⟨z, 0, none⟩ u) := Calm.of (chg_cell W z u) (fun x e => by subst e; exact ⟨fun n => (h.off x (.inr (.inl n))).2.2 ⟨i, _, hi, rfl⟩, .inr ⟨#[v], t, (0, 0), h.wb.bxs.2 i _ hi⟩⟩)
theorem WS.calmF (S : FinSpec le foot mp Fin Sq) {γ' : Γ} {B : Nat} (h : WS Fin Sq foot w0 γ δ a b d p q sv sf Ns wa ms l W) (hf : Fwd le foot γ γ' W W') (hB : mp γ < B) : Calm Ns B W W' := Calm.of hf.chg (fun z f => ⟨fun n => (h.off z (.inr (.inl n))).2.1 f, by
  rcases S.cel h.wb.two.f z f with e | e
  · exact .inl (by omega)
  · exact .inr e⟩)
theorem WS.less (h : WS Fin Sq foot w0 γ δ a b d p q sv sf Ns' wa ms l W) (hN : ∀ z, Ns z → Ns' z) : WS Fin Sq foot w0 γ δ a b d p q sv sf Ns wa ms l W := ⟨h.wb, h.row, h.sq, fun z f => h.off z (f.imp id (fun g => g.imp (hN z) id))⟩
theorem WS.more (S : FinSpec le foot mp Fin Sq) (h : WS Fin Sq foot w0 γ δ a b d p q sv sf Ns wa ms l W) (hc : Chg (fun _ => False) W W') (g2 : ∀ z, Ns' z → Ns z ∨ W.heap.size ≤ z) (g3 : ∀ z, Ns' z → Ns z ∨ z < W'.heap.size) : WS Fin Sq foot w0 γ δ a b d p q sv sf Ns' wa ms l W' := by
  have hn := h.new S hc
  refine ⟨hn.wb, hn.row, hn.sq, fun z f => ?_⟩
  rcases f with f | f | f
  · exact hn.off z (.inl f)
  · rcases g2 z f with e | e
    · exact hn.off z (.inr (.inl e))
    · rcases g3 z f with e3 | e3
      · exact hn.off z (.inr (.inl e3))
      · exact ⟨e3, fun k => by have := (S.lt h.wb.two.f z k).2; omega, fun k => by have := h.wb.bxs.lt k; omega⟩
  · exact hn.off z (.inr (.inr f))
end
theorem Calm.turn {N : Nat → Prop} {B B' : Nat} {W W' W2 : World} (h : Calm N B W W') (hc : Turn B' W' W2) (hB : W.heap.size ≤ B') : Calm N B W W2 := Chg.trans h hc (fun z f => .inr (Nat.le_trans hB f.1))

section
variable {P : Program} {g : Operand} {ps : Array Tmp} {assign body : Code} {Q : Exit → Act → World → Prop} {a : Act} {w : World}
/-- The law of a range with one way on: it ends, or is left by cx, which goes on behind it. -/
theorem wp_rangeT {gf : Nat} {lb : Array Value} (hg : a.eval g = .func (.func gf) #[] lb) (eg : ∀ args w, (callFunc gf args).run P w = .ok (.enter gf args) w) {vs : List Value} {Start Live : World → Prop} (hit : Iter P gf lb vs Start Live) (hps : ps.size = 1) (cx : Code)
    (N0 : Nat → Prop) (I : (Nat → Prop) → Nat → World → Prop) (X : (Nat → Prop) → Nat → World → Prop) (Ax : Array Value → (Nat → Prop) → Nat → Act → World → Prop) (hI : ∀ N k W W', I N k W → Turn w.heap.size W W' → I N k W') (hX : ∀ N k W W', X N k W → Turn w.heap.size W W' → X N k W') (hAx : ∀ N k a₁ W W', Ax a.tmps N k a₁ W → Turn w.heap.size W W' → Ax a.tmps N k a₁ W')
    (hmore : ∀ N N' X Y, I N 0 X → Chg (fun _ => False) X Y → (∀ z, N z → N' z) → (∀ z, N' z → N z ∨ X.heap.size ≤ z) → (∀ z, N' z → N z ∨ z < Y.heap.size) → I N' 0 Y) (hN0 : ∀ z, N0 z → z < w.heap.size)
    (hstart : ∀ N W, I N 0 W → Start W) (hlive : ∀ N k W, I N k W → Live W) (h0 : I N0 0 w)
    (hassign : ∀ (N : Nat → Prop) (l k : Nat) (hk : k < vs.length) (W : World), I N k W → ∀ K : Act → World → Prop, (∀ a₁ W₁, Ax a.tmps N k a₁ W₁ → Calm N w.heap.size W W₁ → K a₁ W₁) → assign.wpIn (Fence.wide.inRound l) 0 P (Exit.then K (fun _ _ _ => False)) { tmps := (ps.zip #[vs[k]]).foldl (fun t (p, v) => t.setIfInBounds p v) a.tmps, defers := [] } W)
    (hbody : ∀ (N : Nat → Prop) (l k : Nat) (hk : k < vs.length) (a₁ : Act) (W : World), w.heap.size ≤ l → (∃ r, W.heap[l]? = some (.loop r)) → Ax a.tmps N k a₁ W → body.wpIn (Fence.wide.inRound l) 0 P (RoundQ N w.heap.size (I N (k + 1)) (fun c W => c = cx ∧ X N (k + 1) W) W) a₁ W)
    (hx : ∀ a W, Q .normal a W → cx.wpIn Fence.wide 0 P Q a W)
    (hend : ∀ (N : Nat → Prop) (D k : Nat) (W : World), (∀ z, N0 z → N z) → w.heap.size ≤ D → ((k = vs.length ∧ I N k W) ∨ (1 ≤ k ∧ k ≤ vs.length ∧ X N k W)) → W.heap[D]? = some (.deferred (some [])) → Q .normal { a with defers := { target := .collected D, args := #[] } :: a.defers } W) :
    (Code.rangeFunc g ps assign body).wpIn Fence.wide 0 P Q a w :=
  wp_range hg eg hit hps N0 I (fun c N k W => c = cx ∧ X N k W) (Ax a.tmps) hI (fun c N k W W' h hc => ⟨h.1, hX N k W W' h.2 hc⟩) hAx hmore hN0 hstart hlive h0 hassign hbody
    (fun N D W hs hD hi hd => hend N D vs.length W hs hD (.inl ⟨rfl, hi⟩) hd)
    (fun N D c k W hs hD h1 h2 hi hd => by
      obtain ⟨rfl, hi⟩ := hi
      exact hx _ _ (hend N D k W hs hD (.inr ⟨h1, h2, hi⟩) hd))
/-- The law of a range that is never left. -/
theorem wp_rangeU {gf : Nat} {lb : Array Value} (hg : a.eval g = .func (.func gf) #[] lb) (eg : ∀ args w, (callFunc gf args).run P w = .ok (.enter gf args) w) {vs : List Value} {Start Live : World → Prop} (hit : Iter P gf lb vs Start Live) (hps : ps.size = 1)
    (N0 : Nat → Prop) (I : (Nat → Prop) → Nat → World → Prop) (Ax : Array Value → (Nat → Prop) → Nat → Act → World → Prop) (hI : ∀ N k W W', I N k W → Turn w.heap.size W W' → I N k W') (hAx : ∀ N k a₁ W W', Ax a.tmps N k a₁ W → Turn w.heap.size W W' → Ax a.tmps N k a₁ W')
    (hmore : ∀ N N' X Y, I N 0 X → Chg (fun _ => False) X Y → (∀ z, N z → N' z) → (∀ z, N' z → N z ∨ X.heap.size ≤ z) → (∀ z, N' z → N z ∨ z < Y.heap.size) → I N' 0 Y) (hN0 : ∀ z, N0 z → z < w.heap.size)
    (hstart : ∀ N W, I N 0 W → Start W) (hlive : ∀ N k W, I N k W → Live W) (h0 : I N0 0 w)
    (hassign : ∀ (N : Nat → Prop) (l k : Nat) (hk : k < vs.length) (W : World), I N k W → ∀ K : Act → World → Prop, (∀ a₁ W₁, Ax a.tmps N k a₁ W₁ → Calm N w.heap.size W W₁ → K a₁ W₁) → assign.wpIn (Fence.wide.inRound l) 0 P (Exit.then K (fun _ _ _ => False)) { tmps := (ps.zip #[vs[k]]).foldl (fun t (p, v) => t.setIfInBounds p v) a.tmps, defers := [] } W)
    (hbody : ∀ (N : Nat → Prop) (l k : Nat) (hk : k < vs.length) (a₁ : Act) (W : World), w.heap.size ≤ l → (∃ r, W.heap[l]? = some (.loop r)) → Ax a.tmps N k a₁ W → body.wpIn (Fence.wide.inRound l) 0 P (RoundQ N w.heap.size (I N (k + 1)) (fun _ _ => False) W) a₁ W)
    (hdone : ∀ (N : Nat → Prop) (D : Nat) (W : World), (∀ z, N0 z → N z) → w.heap.size ≤ D → I N vs.length W → W.heap[D]? = some (.deferred (some [])) → Q .normal { a with defers := { target := .collected D, args := #[] } :: a.defers } W) :
    (Code.rangeFunc g ps assign body).wpIn Fence.wide 0 P Q a w :=
  wp_range hg eg hit hps N0 I (fun _ _ _ _ => False) (Ax a.tmps) hI (fun _ _ _ _ _ h _ => h) hAx hmore hN0 hstart hlive h0 hassign hbody hdone (fun _ _ _ _ _ _ _ _ _ h => h.elim)
/-- The like within a round. -/
theorem wp_rangeT_in {l₀ : Nat} {r₀ : Loop} (hl₀ : w.heap[l₀]? = some (.loop r₀)) {gf : Nat} {lb : Array Value} (hg : a.eval g = .func (.func gf) #[] lb) (eg : ∀ args w, (callFunc gf args).run P w = .ok (.enter gf args) w) {vs : List Value} {Start Live : World → Prop} (hit : Iter P gf lb vs Start Live) (hps : ps.size = 1)
    (N0 : Nat → Prop) (I : (Nat → Prop) → Nat → World → Prop) (Ax : Array Value → (Nat → Prop) → Nat → Act → World → Prop) (hI : ∀ N k W W', I N k W → Turn w.heap.size W W' → I N k W') (hAx : ∀ N k a₁ W W', Ax a.tmps N k a₁ W → Turn w.heap.size W W' → Ax a.tmps N k a₁ W')
    (hmore : ∀ N N' X Y, I N 0 X → Chg (fun _ => False) X Y → (∀ z, N z → N' z) → (∀ z, N' z → N z ∨ X.heap.size ≤ z) → (∀ z, N' z → N z ∨ z < Y.heap.size) → I N' 0 Y) (hN0 : ∀ z, N0 z → z < w.heap.size)
    (hstart : ∀ N W, I N 0 W → Start W) (hlive : ∀ N k W, I N k W → Live W) (h0 : I N0 0 w)
    (hassign : ∀ (N : Nat → Prop) (l k : Nat) (hk : k < vs.length) (W : World), I N k W → ∀ K : Act → World → Prop, (∀ a₁ W₁, Ax a.tmps N k a₁ W₁ → Calm N w.heap.size W W₁ → K a₁ W₁) → assign.wpIn (Fence.wide.inRound l) 0 P (Exit.then K (fun _ _ _ => False)) { tmps := (ps.zip #[vs[k]]).foldl (fun t (p, v) => t.setIfInBounds p v) a.tmps, defers := [] } W)
    (hbody : ∀ (N : Nat → Prop) (l k : Nat) (hk : k < vs.length) (a₁ : Act) (W : World), w.heap.size ≤ l → (∃ r, W.heap[l]? = some (.loop r)) → Ax a.tmps N k a₁ W → body.wpIn (Fence.wide.inRound l) 0 P (RoundQ N w.heap.size (I N (k + 1)) (fun _ _ => False) W) a₁ W)
    (hdone : ∀ (N : Nat → Prop) (W : World), (∀ z, N0 z → N z) → I N vs.length W → Q .normal a W) :
    (Code.rangeFunc g ps assign body).wpIn (Fence.wide.inRound l₀) 0 P Q a w :=
  wp_range_in hl₀ hg eg hit hps N0 I (fun _ _ _ _ => False) (Ax a.tmps) hI (fun _ _ _ _ _ h _ => h) hAx hmore hN0 hstart hlive h0 hassign hbody hdone (fun _ _ _ _ _ _ _ h => h.elim)
end
/-- At the end nothing is found. -/
theorem runN_last (d : List Nat) (q : Nat) : ∀ m, runN d d.length q m = 0
  | 0 => rfl
  | m + 1 => by
    unfold runN
    rw [if_neg (fun h => by have := h.2.1; omega)]
    exact runN_last d q m
theorem mat_end (d : List Nat) (n : Nat) (m : Int) : mat d n d.length m = [] := by
  rw [List.eq_nil_iff_forall_not_mem]
  intro x hx
  have h := mat_mem hx
  rw [runN_last] at h
  omega
end Go.Proofs.Ytkdionoelbiidaa
