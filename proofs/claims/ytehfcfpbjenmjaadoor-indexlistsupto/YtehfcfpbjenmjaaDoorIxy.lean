/- Own rows beside one another, each in a block of its own; of no statement by themselves. -/
import Derived.Test.YtehfcfpbjenmjaaDoorIxq
import Derived.Test.YtehfcfpbjenmjaaDoorBoundA
namespace Go.Proofs.YtehfcfpbjenmjaaDoor
open Go.RowKit
set_option linter.unusedVariables false
set_option linter.unusedSimpArgs false
/-- A row: its cells' type, how many an entry has, where it lies, its entries, its cells. -/
structure R9 where
  e : TypeId
  sz : Nat
  v : Value
  n : Nat
  xs : List Value
structure Rws (B : Nat) (w : World) (R : Nat × Nat → Option R9) : Prop where
  own : ∀ (k : Nat × Nat) (r : R9), R k = some r → w.ownsRow B r.e r.sz r.v r.n r.xs
  inj : ∀ (k j : Nat × Nat) (r s : R9) (g : Nat), R k = some r → R j = some s → r.v.ownBlock = some g → s.v.ownBlock = some g → k = j
def upR (R : Nat × Nat → Option R9) (k : Nat × Nat) (r : R9) : Nat × Nat → Option R9 := fun j => if j = k then some r else R j
theorem upR_at (R : Nat × Nat → Option R9) (k : Nat × Nat) (r : R9) : upR R k r k = some r := if_pos rfl
theorem upR_ne {R : Nat × Nat → Option R9} {k j : Nat × Nat} {r : R9} (h : j ≠ k) : upR R k r j = R j := if_neg h
theorem Rws.new {B : Nat} {w w' : World} {R : Nat × Nat → Option R9} (h : Rws B w R) (hc : Chg (fun _ => False) w w') : Rws B w' R := ⟨fun k r e => owns_keepI (h.own k r e) hc (fun _ _ f => f), h.inj⟩
theorem Rws.lt {B : Nat} {w : World} {R : Nat × Nat → Option R9} (h : Rws B w R) {k : Nat × Nat} {r : R9} (e : R k = some r) {g : Nat} (hg : r.v.ownBlock = some g) : B ≤ g ∧ g < w.heap.size := (h.own k r e).lt g hg
/-- One row becomes another, where it lay or in new memory. -/
theorem Rws.turn {B : Nat} {w w' : World} {R : Nat × Nat → Option R9} {k : Nat × Nat} {r r' : R9} (h : Rws B w R) (e : R k = some r) (ho : w'.ownsRow B r'.e r'.sz r'.v r'.n r'.xs) (hC : Chg (fun g => r.v.ownBlock = some g) w w') (hm : Moved w r.v r'.v) : Rws B w' (upR R k r') := by
  refine ⟨fun j s ej => ?_, fun i j s t g ei ej gi gj => ?_⟩
  · by_cases hj : j = k
    · subst hj
      rw [upR_at] at ej
      injection ej with ej
      subst ej
      exact ho
    · rw [upR_ne hj] at ej
      exact owns_keepI (h.own j s ej) hC (fun g gs gr => hj (h.inj j k s r g ej e gs gr))
  · have key : ∀ (a : Nat × Nat) (s : R9), R a = some s → a ≠ k → s.v.ownBlock = some g → r'.v.ownBlock = some g → False := fun a s ea ha gs gr => by
      rcases hm g gr with h1 | h1
      · exact ha (h.inj a k s r g ea e gs h1)
      · have := (h.lt ea gs).2
        omega
    by_cases hi : i = k
    · by_cases hj : j = k
      · rw [hi, hj]
      · subst hi
        rw [upR_at] at ei
        injection ei with ei
        subst ei
        rw [upR_ne hj] at ej
        exact (key j t ej hj gj gi).elim
    · by_cases hj : j = k
      · subst hj
        rw [upR_at] at ej
        injection ej with ej
        subst ej
        rw [upR_ne hi] at ei
        exact (key i s ei hi gi gj).elim
      · rw [upR_ne hi] at ei
        rw [upR_ne hj] at ej
        exact h.inj i j s t g ei ej gi gj
theorem Rws.grow {B : Nat} {w w' : World} {R : Nat × Nat → Option R9} {k : Nat × Nat} {r : R9} {v' : Value} {n' : Nat} {xs' : List Value} (h : Rws B w R) (e : R k = some r) (ho : w'.ownsRow B r.e r.sz v' n' xs') (hg : w.grownBy w' r.v.ownBlock) (hm : Moved w r.v v') : Rws B w' (upR R k ⟨r.e, r.sz, v', n', xs'⟩) :=
  h.turn (r' := ⟨r.e, r.sz, v', n', xs'⟩) e ho ((Chg.refl _ w).grown hg (fun g e => .inl e)) hm
theorem Rws.set {B : Nat} {w w' : World} {R : Nat × Nat → Option R9} {k : Nat × Nat} {r : R9} {xs' : List Value} (h : Rws B w R) (e : R k = some r) (ho : w'.ownsRow B r.e r.sz r.v r.n xs') (hC : Chg (fun g => r.v.ownBlock = some g) w w') : Rws B w' (upR R k ⟨r.e, r.sz, r.v, r.n, xs'⟩) :=
  h.turn (r' := ⟨r.e, r.sz, r.v, r.n, xs'⟩) e ho hC (fun g hg => .inl hg)
/-- One more row, in memory that is new. -/
theorem Rws.add {B B2 : Nat} {w : World} {R : Nat × Nat → Option R9} {k : Nat × Nat} {r : R9} (h : Rws B w R) (ho : w.ownsRow B2 r.e r.sz r.v r.n r.xs) (hB : B ≤ B2) (hlt : ∀ (j : Nat × Nat) (s : R9) (g : Nat), R j = some s → s.v.ownBlock = some g → g < B2) : Rws B w (upR R k r) := by
  refine ⟨fun j s ej => ?_, fun i j s t g ei ej gi gj => ?_⟩
  · by_cases hj : j = k
    · subst hj
      rw [upR_at] at ej
      injection ej with ej
      subst ej
      exact owns_base ho hB
    · rw [upR_ne hj] at ej
      exact h.own j s ej
  · have key : ∀ (a : Nat × Nat) (s : R9), R a = some s → s.v.ownBlock = some g → r.v.ownBlock = some g → False := fun a s ea gs gr => by
      have h1 := hlt a s g ea gs
      have h2 := (ho.lt g gr).1
      omega
    by_cases hi : i = k
    · by_cases hj : j = k
      · rw [hi, hj]
      · subst hi
        rw [upR_at] at ei
        injection ei with ei
        subst ei
        rw [upR_ne hj] at ej
        exact (key j t ej gj gi).elim
    · by_cases hj : j = k
      · subst hj
        rw [upR_at] at ej
        injection ej with ej
        subst ej
        rw [upR_ne hi] at ei
        exact (key i s ei gi gj).elim
      · rw [upR_ne hi] at ei
        rw [upR_ne hj] at ej
        exact h.inj i j s t g ei ej gi gj
/-- Where nothing has been made. -/
def R00 : Nat × Nat → Option R9 := fun k => if k = (0, 0) then some ⟨22, 1, .slice none 0 0, 0, []⟩ else if k = (0, 1) then some ⟨23, 1, .slice none 0 0, 0, []⟩ else if k = (0, 2) then some ⟨39, 1, .slice none 0 0, 0, []⟩ else if k = (0, 3) then some ⟨9, 1, .slice none 0 0, 0, []⟩ else if k = (0, 4) then some ⟨23, 1, .slice none 0 0, 0, []⟩ else none
theorem R00_nil {k : Nat × Nat} {r : R9} (h : R00 k = some r) : r.v = .slice none 0 0 ∧ r.n = 0 ∧ r.xs = [] := by
  unfold R00 at h
  repeat' split at h
  all_goals first | (injection h with h; subst h; exact ⟨rfl, rfl, rfl⟩) | (cases h)
theorem rws_start (w : World) : Rws w.heap.size w R00 := ⟨fun k r e => by
  obtain ⟨e1, e2, e3⟩ := R00_nil e
  rw [e1, e2, e3]
  exact World.ownsRow_nil _ _ _ _, fun k j r s g e1 e2 g1 g2 => by
  rw [(R00_nil e1).1] at g1
  simp [Value.ownBlock] at g1⟩
/-- Where a row that has entries lies. -/
theorem own_at {w : World} {B sz : Nat} {e : TypeId} {v : Value} {n : Nat} {xs : List Value} (h : w.ownsRow B e sz v n xs) (hn : 0 < n) : ∃ g c, v = .slice (some ⟨g, 0, none⟩) n c ∧ n ≤ c ∧ B ≤ g ∧ (∀ j u, xs[j]? = some u → w.cell? ⟨g, j, none⟩ = some u) ∧ (∀ j, w.frozen? ⟨g, j, none⟩ = false) := by
  rcases h.2 with ⟨rfl, e0⟩ | ⟨g, cap, cur, rfl, hb, hg, hc, _⟩
  · omega
  · refine ⟨g, cap, rfl, hc, hb, fun j u hu => ?_, fun j => by simp [World.frozen?, hg]⟩
    have := h.cells (g := g) rfl j u hu
    rw [addk, Nat.zero_add] at this
    exact this
/-- A cell of an outer list. -/
theorem outer_at {w : World} {B : Nat} {r : R9} {k g : Nat} {c : Nat} {u : Value} (h : w.ownsRow B r.e r.sz r.v r.n r.xs) (hv : r.v = .slice (some ⟨g, 0, none⟩) r.n c) (hu : r.xs[k]? = some u) : w.cell? ⟨g, k, none⟩ = some u := by
  rw [hv] at h
  have h1 := h.cells (g := g) rfl k u hu
  rw [addk, Nat.zero_add] at h1
  exact h1
theorem range_at {k n : Nat} (h : k < n) (f : Nat → Value) : ((List.range n).map f)[k]? = some (f k) := by simp [h]
theorem own_setS {w : World} {B s : Nat} {e : TypeId} {g n cap : Nat} {xs : List Value} (h : w.ownsRow B e s (.slice (some ⟨g, 0, none⟩) n cap) n xs) (j : Nat) (u : Value) :
    (w.setCell ⟨g, j, none⟩ u).ownsRow B e s (.slice (some ⟨g, 0, none⟩) n cap) n (xs.set j u) := by
  refine ⟨by rw [List.length_set]; exact h.1, ?_⟩
  rcases h.2 with ⟨e0, _⟩ | ⟨g', cap', cur, e0, hb, hg, hc, hm, hs, ht⟩
  · cases e0
  · simp only [Value.slice.injEq, Option.some.injEq, Addr.mk.injEq, true_and, and_true] at e0
    obtain ⟨rfl, rfl⟩ := e0
    have hg2 : w.heap[g]? = some (.cells cur.toList.toArray e (0, 0)) := by rw [hg]
    refine .inr ⟨g, cap, _, rfl, hb, blk_setk hg2 j u, hc, hm, by simpa using hs, ?_⟩
    rw [← ht]
    simp [List.take_set]
theorem row_cell {w : World} {B sz : Nat} {e : TypeId} {g n c : Nat} {xs : List Value} (h : w.ownsRow B e sz (.slice (some ⟨g, 0, none⟩) n c) n xs) {j : Nat} {u : Value} (hu : xs[j]? = some u) : w.cell? ⟨g, j, none⟩ = some u := by
  have := h.cells (g := g) rfl j u hu
  rw [addk, Nat.zero_add] at this
  exact this
theorem row_free {w : World} {B sz : Nat} {e : TypeId} {g n c : Nat} {xs : List Value} (h : w.ownsRow B e sz (.slice (some ⟨g, 0, none⟩) n c) n xs) (j : Nat) : w.frozen? ⟨g, j, none⟩ = false := by
  rcases h.2 with ⟨e0, _⟩ | ⟨g', cap', cur, e0, hb, hg, _⟩
  · cases e0
  · simp only [Value.slice.injEq, Option.some.injEq, Addr.mk.injEq, true_and, and_true] at e0
    obtain ⟨rfl, rfl⟩ := e0
    simp [World.frozen?, hg]
theorem chg_set {w : World} {g j : Nat} {u : Value} : Chg (fun x => x = g) w (w.setCell ⟨g, j, none⟩ u) := Chg.setCell (S := fun x => x = g) (Chg.refl _ w) (p := ⟨g, j, none⟩) (.inl rfl) _
theorem snoc_casesI {α : Type} {l : List α} {x y : α} {i : Nat} (h : (l ++ [x])[i]? = some y) : (i < l.length ∧ l[i]? = some y) ∨ (i = l.length ∧ y = x) := by
  by_cases hi : i < l.length
  · rw [List.getElem?_append_left hi] at h
    exact .inl ⟨hi, h⟩
  · have h1 := (List.getElem?_eq_some_iff.1 h).1
    simp at h1
    obtain rfl : i = l.length := by omega
    simp at h
    exact .inr ⟨rfl, h.symm⟩
theorem from_vI (w : World) (v : Value) (t : TypeId) : From (w.alloc (.cells #[v] t)) (some ⟨w.heap.size, 0, none⟩) 1 1 1 [v] := by
  refine ⟨rfl, .inr ⟨_, rfl, fun j u hu => ?_⟩⟩
  rw [addk, Nat.zero_add]
  simp only [World.cell?, heap_alloc_last]
  simpa using hu
/-- What is known of the lists of lists: k lists of bytes, of records, of places; their strings; what came in. -/
structure Fx (SA : Nat → Value) (ST : Nat → ByteArray) (R : Nat × Nat → Option R9) (k : Nat) (hb hr hp hw hl : Value) (bvs rvs pvs : List Value) (N : Nat → Nat) (X : Nat → List Value) (M : Nat → Nat) (Y : Nat → List Value) (Q : Nat → Nat) (Z : Nat → List Value) : Prop where
  lb : bvs.length = k
  lr : rvs.length = k
  lp : pvs.length = k
  c0 : R (0, 0) = some ⟨22, 1, hb, k, bvs⟩
  c1 : R (0, 1) = some ⟨23, 1, hr, k, rvs⟩
  c2 : R (0, 2) = some ⟨39, 1, hp, k, pvs⟩
  c3 : R (0, 3) = some ⟨9, 1, hw, k, (List.range k).map fun j => .string (ST j)⟩
  c4 : R (0, 4) = some ⟨23, 1, hl, k, (List.range k).map SA⟩
  cb : ∀ (i : Nat) (v : Value), bvs[i]? = some v → R (1, i) = some ⟨5, 1, v, N i, X i⟩
  cr : ∀ (i : Nat) (v : Value), rvs[i]? = some v → R (2, i) = some ⟨43, 2, v, M i, Y i⟩
  cp : ∀ (i : Nat) (v : Value), pvs[i]? = some v → R (3, i) = some ⟨45, 4, v, Q i, Z i⟩
theorem range_snoc (k : Nat) (f : Nat → Value) : (List.range (k + 1)).map f = (List.range k).map f ++ [f k] := by rw [List.range_succ, List.map_append]; rfl
/-- One more of each. -/
theorem Fx.step {SA : Nat → Value} {ST : Nat → ByteArray} {R : Nat × Nat → Option R9} {k : Nat} {hb hr hp hw hl hb' hr' hp' hw' hl' vb vr vp : Value} {bvs rvs pvs : List Value} {N M Q : Nat → Nat} {X Y Z : Nat → List Value} (h : Fx SA ST R k hb hr hp hw hl bvs rvs pvs N X M Y Q Z) :
    Fx SA ST (upR (upR (upR (upR (upR (upR (upR (upR R (1, k) ⟨5, 1, vb, N k, X k⟩) (2, k) ⟨43, 2, vr, M k, Y k⟩) (3, k) ⟨45, 4, vp, Q k, Z k⟩) (0, 0) ⟨22, 1, hb', k + 1, bvs ++ [vb]⟩) (0, 1) ⟨23, 1, hr', k + 1, rvs ++ [vr]⟩) (0, 2) ⟨39, 1, hp', k + 1, pvs ++ [vp]⟩) (0, 3) ⟨9, 1, hw', k + 1, ((List.range k).map fun j => .string (ST j)) ++ [.string (ST k)]⟩) (0, 4) ⟨23, 1, hl', k + 1, (List.range k).map SA ++ [SA k]⟩) (k + 1) hb' hr' hp' hw' hl' (bvs ++ [vb]) (rvs ++ [vr]) (pvs ++ [vp]) N X M Y Q Z := by
  refine ⟨by rw [List.length_append, h.lb]; rfl, by rw [List.length_append, h.lr]; rfl, by rw [List.length_append, h.lp]; rfl, by simp [upR], by simp [upR], by simp [upR], by simp [upR, range_snoc], by simp [upR, range_snoc], fun i v e => ?_, fun i v e => ?_, fun i v e => ?_⟩
  · rcases snoc_casesI e with ⟨hi, e⟩ | ⟨hi, rfl⟩
    · have := h.cb i v e
      rw [h.lb] at hi
      simp [upR, show i ≠ k by omega, this]
    · rw [h.lb] at hi
      subst hi
      simp [upR]
  · rcases snoc_casesI e with ⟨hi, e⟩ | ⟨hi, rfl⟩
    · have := h.cr i v e
      rw [h.lr] at hi
      simp [upR, show i ≠ k by omega, this]
    · rw [h.lr] at hi
      subst hi
      simp [upR]
  · rcases snoc_casesI e with ⟨hi, e⟩ | ⟨hi, rfl⟩
    · have := h.cp i v e
      rw [h.lp] at hi
      simp [upR, show i ≠ k by omega, this]
    · rw [h.lp] at hi
      subst hi
      simp [upR]
theorem Fx.wb {SA : Nat → Value} {ST : Nat → ByteArray} {R : Nat × Nat → Option R9} {k : Nat} {hb hr hp hw hl v : Value} {bvs rvs pvs : List Value} {N M Q : Nat → Nat} {X Y Z : Nat → List Value} (h : Fx SA ST R k hb hr hp hw hl bvs rvs pvs N X M Y Q Z) {i : Nat} (e : bvs[i]? = some v) (xs : List Value) : Fx SA ST (upR R (1, i) ⟨5, 1, v, N i, xs⟩) k hb hr hp hw hl bvs rvs pvs N (fun j => if j = i then xs else X j) M Y Q Z := by
  refine ⟨h.lb, h.lr, h.lp, by simp [upR, h.c0], by simp [upR, h.c1], by simp [upR, h.c2], by simp [upR, h.c3], by simp [upR, h.c4], fun j u ej => ?_, fun j u ej => by simp [upR, h.cr j u ej], fun j u ej => by simp [upR, h.cp j u ej]⟩
  by_cases hj : j = i
  · subst hj
    rw [e] at ej
    injection ej with ej
    subst ej
    simp [upR]
  · simp [upR, hj, h.cb j u ej]
theorem Fx.wr {SA : Nat → Value} {ST : Nat → ByteArray} {R : Nat × Nat → Option R9} {k : Nat} {hb hr hp hw hl v : Value} {bvs rvs pvs : List Value} {N M Q : Nat → Nat} {X Y Z : Nat → List Value} (h : Fx SA ST R k hb hr hp hw hl bvs rvs pvs N X M Y Q Z) {i : Nat} (e : rvs[i]? = some v) (xs : List Value) : Fx SA ST (upR R (2, i) ⟨43, 2, v, M i, xs⟩) k hb hr hp hw hl bvs rvs pvs N X M (fun j => if j = i then xs else Y j) Q Z := by
  refine ⟨h.lb, h.lr, h.lp, by simp [upR, h.c0], by simp [upR, h.c1], by simp [upR, h.c2], by simp [upR, h.c3], by simp [upR, h.c4], fun j u ej => by simp [upR, h.cb j u ej], fun j u ej => ?_, fun j u ej => by simp [upR, h.cp j u ej]⟩
  by_cases hj : j = i
  · subst hj
    rw [e] at ej
    injection ej with ej
    subst ej
    simp [upR]
  · simp [upR, hj, h.cr j u ej]
theorem Fx.wp {SA : Nat → Value} {ST : Nat → ByteArray} {R : Nat × Nat → Option R9} {k : Nat} {hb hr hp hw hl v : Value} {bvs rvs pvs : List Value} {N M Q : Nat → Nat} {X Y Z : Nat → List Value} (h : Fx SA ST R k hb hr hp hw hl bvs rvs pvs N X M Y Q Z) {i : Nat} (e : pvs[i]? = some v) (xs : List Value) : Fx SA ST (upR R (3, i) ⟨45, 4, v, Q i, xs⟩) k hb hr hp hw hl bvs rvs pvs N X M Y Q (fun j => if j = i then xs else Z j) := by
  refine ⟨h.lb, h.lr, h.lp, by simp [upR, h.c0], by simp [upR, h.c1], by simp [upR, h.c2], by simp [upR, h.c3], by simp [upR, h.c4], fun j u ej => by simp [upR, h.cb j u ej], fun j u ej => by simp [upR, h.cr j u ej], fun j u ej => ?_⟩
  by_cases hj : j = i
  · subst hj
    rw [e] at ej
    injection ej with ej
    subst ej
    simp [upR]
  · simp [upR, hj, h.cp j u ej]
/-- A longer one in its place. -/
theorem Fx.gb {SA : Nat → Value} {ST : Nat → ByteArray} {R : Nat × Nat → Option R9} {k : Nat} {hb hr hp hw hl v' : Value} {bvs rvs pvs : List Value} {N M Q : Nat → Nat} {X Y Z : Nat → List Value} (h : Fx SA ST R k hb hr hp hw hl bvs rvs pvs N X M Y Q Z) {i : Nat} (hi : i < k) (n' : Nat) (xs : List Value) : Fx SA ST (upR (upR R (1, i) ⟨5, 1, v', n', xs⟩) (0, 0) ⟨22, 1, hb, k, bvs.set i v'⟩) k hb hr hp hw hl (bvs.set i v') rvs pvs (fun j => if j = i then n' else N j) (fun j => if j = i then xs else X j) M Y Q Z := by
  refine ⟨by rw [List.length_set]; exact h.lb, h.lr, h.lp, by simp [upR], by simp [upR, h.c1], by simp [upR, h.c2], by simp [upR, h.c3], by simp [upR, h.c4], fun j u ej => ?_, fun j u ej => by simp [upR, h.cr j u ej], fun j u ej => by simp [upR, h.cp j u ej]⟩
  by_cases hj : j = i
  · subst hj
    rw [List.getElem?_set_self (by rw [h.lb]; exact hi)] at ej
    injection ej with ej
    subst ej
    simp [upR]
  · rw [List.getElem?_set_ne (fun e => hj e.symm)] at ej
    simp [upR, hj, h.cb j u ej]
theorem Fx.gr {SA : Nat → Value} {ST : Nat → ByteArray} {R : Nat × Nat → Option R9} {k : Nat} {hb hr hp hw hl v' : Value} {bvs rvs pvs : List Value} {N M Q : Nat → Nat} {X Y Z : Nat → List Value} (h : Fx SA ST R k hb hr hp hw hl bvs rvs pvs N X M Y Q Z) {i : Nat} (hi : i < k) (n' : Nat) (xs : List Value) : Fx SA ST (upR (upR R (2, i) ⟨43, 2, v', n', xs⟩) (0, 1) ⟨23, 1, hr, k, rvs.set i v'⟩) k hb hr hp hw hl bvs (rvs.set i v') pvs N X (fun j => if j = i then n' else M j) (fun j => if j = i then xs else Y j) Q Z := by
  refine ⟨h.lb, by rw [List.length_set]; exact h.lr, h.lp, by simp [upR, h.c0], by simp [upR], by simp [upR, h.c2], by simp [upR, h.c3], by simp [upR, h.c4], fun j u ej => by simp [upR, h.cb j u ej], fun j u ej => ?_, fun j u ej => by simp [upR, h.cp j u ej]⟩
  by_cases hj : j = i
  · subst hj
    rw [List.getElem?_set_self (by rw [h.lr]; exact hi)] at ej
    injection ej with ej
    subst ej
    simp [upR]
  · rw [List.getElem?_set_ne (fun e => hj e.symm)] at ej
    simp [upR, hj, h.cr j u ej]
theorem Fx.gp {SA : Nat → Value} {ST : Nat → ByteArray} {R : Nat × Nat → Option R9} {k : Nat} {hb hr hp hw hl v' : Value} {bvs rvs pvs : List Value} {N M Q : Nat → Nat} {X Y Z : Nat → List Value} (h : Fx SA ST R k hb hr hp hw hl bvs rvs pvs N X M Y Q Z) {i : Nat} (hi : i < k) (n' : Nat) (xs : List Value) : Fx SA ST (upR (upR R (3, i) ⟨45, 4, v', n', xs⟩) (0, 2) ⟨39, 1, hp, k, pvs.set i v'⟩) k hb hr hp hw hl bvs rvs (pvs.set i v') N X M Y (fun j => if j = i then n' else Q j) (fun j => if j = i then xs else Z j) := by
  refine ⟨h.lb, h.lr, by rw [List.length_set]; exact h.lp, by simp [upR, h.c0], by simp [upR, h.c1], by simp [upR], by simp [upR, h.c3], by simp [upR, h.c4], fun j u ej => by simp [upR, h.cb j u ej], fun j u ej => by simp [upR, h.cr j u ej], fun j u ej => ?_⟩
  by_cases hj : j = i
  · subst hj
    rw [List.getElem?_set_self (by rw [h.lp]; exact hi)] at ej
    injection ej with ej
    subst ej
    simp [upR]
  · rw [List.getElem?_set_ne (fun e => hj e.symm)] at ej
    simp [upR, hj, h.cp j u ej]
theorem Fx.cast {SA : Nat → Value} {ST : Nat → ByteArray} {R : Nat × Nat → Option R9} {k : Nat} {hb hr hp hw hl : Value} {bvs rvs pvs : List Value} {N N' M M' Q Q' : Nat → Nat} {X X' Y Y' Z Z' : Nat → List Value} (h : Fx SA ST R k hb hr hp hw hl bvs rvs pvs N X M Y Q Z) (hN : ∀ j, N j = N' j) (hX : ∀ j, X j = X' j) (hM : ∀ j, M j = M' j) (hY : ∀ j, Y j = Y' j) (hQ : ∀ j, Q j = Q' j) (hZ : ∀ j, Z j = Z' j) : Fx SA ST R k hb hr hp hw hl bvs rvs pvs N' X' M' Y' Q' Z' := by
  rw [← funext hN, ← funext hX, ← funext hM, ← funext hY, ← funext hQ, ← funext hZ]
  exact h
/-- A list of which the first q have become r. -/
def mkL {α : Type} (q : Nat) (r : α) (l : List α) : List α := List.replicate q r ++ l.drop q
theorem mkL_zero {α : Type} (r : α) (l : List α) : mkL 0 r l = l := rfl
theorem mkL_all {α : Type} (r : α) (l : List α) : mkL l.length r l = List.replicate l.length r := by unfold mkL; rw [List.drop_length, List.append_nil]
theorem mkL_len {α : Type} {q : Nat} {r : α} {l : List α} (h : q ≤ l.length) : (mkL q r l).length = l.length := by unfold mkL; rw [List.length_append, List.length_replicate, List.length_drop]; omega
theorem mkL_set {α : Type} {q : Nat} {r : α} {l : List α} (h : q < l.length) : (mkL q r l).set q r = mkL (q + 1) r l := by
  unfold mkL
  apply List.ext_getElem?
  intro j
  rw [List.getElem?_set]
  by_cases hj : q = j
  · subst hj
    rw [if_pos rfl, if_pos (by rw [List.length_append, List.length_replicate, List.length_drop]; omega), List.getElem?_append_left (by rw [List.length_replicate]; omega)]
    simp
  · rw [if_neg hj]
    by_cases h1 : j < q
    · rw [List.getElem?_append_left (by rw [List.length_replicate]; omega), List.getElem?_append_left (by rw [List.length_replicate]; omega)]
      simp [h1, show j < q + 1 by omega]
    · rw [List.getElem?_append_right (by rw [List.length_replicate]; omega), List.getElem?_append_right (by rw [List.length_replicate]; omega), List.length_replicate, List.length_replicate, List.getElem?_drop, List.getElem?_drop, show q + (j - q) = q + 1 + (j - (q + 1)) by omega]
theorem rcs_set : ∀ (l : List Rec) (k : Nat) (u s : Int), ((rcs l).set (k * 2) (.int .i64 u)).set (k * 2 + 1) (.int .i64 s) = rcs (l.set k ⟨u, s⟩)
  | [], k, u, s => by simp [rcs]
  | r :: l, 0, u, s => by simp [rcs, Rec.cells]
  | r :: l, k + 1, u, s => by
    have ih := rcs_set l k u s
    have e : ∀ (x : Rec) (m : List Rec), rcs (x :: m) = .int .i64 x.u :: .int .i64 x.s :: rcs m := fun _ _ => rfl
    rw [List.set_cons_succ, e, e, show (k + 1) * 2 = k * 2 + 1 + 1 by omega, List.set_cons_succ, List.set_cons_succ, List.set_cons_succ, List.set_cons_succ, ih]
theorem pls_set : ∀ (l : List Plc) (k : Nat) (o u s t : Int), ((((pls l).set (k * 4) (.int .i64 o)).set (k * 4 + 1) (.int .i64 u)).set (k * 4 + 2) (.int .i64 s)).set (k * 4 + 3) (.int .i64 t) = pls (l.set k ⟨o, ⟨u, s⟩, t⟩)
  | [], k, o, u, s, t => by simp [pls]
  | r :: l, 0, o, u, s, t => by simp [pls, Plc.cells]
  | r :: l, k + 1, o, u, s, t => by
    have ih := pls_set l k o u s t
    have e : ∀ (x : Plc) (m : List Plc), pls (x :: m) = .int .i64 x.off :: .int .i64 x.r.u :: .int .i64 x.r.s :: .int .i64 x.st :: pls m := fun _ _ => rfl
    rw [List.set_cons_succ, e, e, show (k + 1) * 4 = k * 4 + 1 + 1 + 1 + 1 by omega, show k * 4 + 1 + 1 + 1 + 1 + 1 = k * 4 + 1 + 1 + 1 + 1 + 1 from rfl, show k * 4 + 1 + 1 + 1 + 1 + 2 = k * 4 + 2 + 1 + 1 + 1 + 1 by omega, show k * 4 + 1 + 1 + 1 + 1 + 3 = k * 4 + 3 + 1 + 1 + 1 + 1 by omega]
    simp only [List.set_cons_succ]
    rw [ih]
/-- The marks of the list number i. -/
def mR (i : Nat) : Rec := ⟨-1 - i, 0⟩
def mP (i : Nat) : Plc := ⟨-1 - i, ⟨0, 0⟩, 0⟩
def mB (i : Nat) : Value := .int .u8 (i : Int)
/-- Behind i lists that are written full. -/
def XA (BB : Nat → List Nat) (i j : Nat) : List Value := if j < i then List.replicate (BB j).length (mB j) else ins .u8 (nums (BB j))
def YA (SL : Nat → List Rec) (i j : Nat) : List Rec := if j < i then List.replicate (SL j).length (mR j) else SL j
def ZA (PP : Nat → List Plc) (i j : Nat) : List Plc := if j < i then List.replicate (PP j).length (mP j) else PP j
def atI {α : Type} (f : Nat → α) (i : Nat) (x : α) (j : Nat) : α := if j = i then x else f j
theorem atI_same {α : Type} (f : Nat → α) (i : Nat) (x : α) (h : f i = x) (j : Nat) : f j = atI f i x j := by
  unfold atI
  by_cases e : j = i
  · rw [if_pos e, e, h]
  · rw [if_neg e]
theorem atI_twice {α : Type} (f : Nat → α) (i : Nat) (x y : α) (j : Nat) : (if j = i then y else atI f i x j) = atI f i y j := by
  unfold atI
  by_cases e : j = i
  · rw [if_pos e, if_pos e]
  · rw [if_neg e, if_neg e, if_neg e]
theorem atI_at {α : Type} (f : Nat → α) (i : Nat) (x : α) : atI f i x i = x := if_pos rfl
theorem XA_next (BB : Nat → List Nat) (i j : Nat) : atI (XA BB i) i (List.replicate (BB i).length (mB i)) j = XA BB (i + 1) j := by
  unfold atI XA
  by_cases e : j = i
  · subst e
    rw [if_pos rfl, if_pos (by omega)]
  · rw [if_neg e]
    by_cases h : j < i
    · rw [if_pos h, if_pos (by omega)]
    · rw [if_neg h, if_neg (by omega)]
theorem YA_next (SL : Nat → List Rec) (i j : Nat) : atI (YA SL i) i (List.replicate (SL i).length (mR i)) j = YA SL (i + 1) j := by
  unfold atI YA
  by_cases e : j = i
  · subst e
    rw [if_pos rfl, if_pos (by omega)]
  · rw [if_neg e]
    by_cases h : j < i
    · rw [if_pos h, if_pos (by omega)]
    · rw [if_neg h, if_neg (by omega)]
theorem ZA_next (PP : Nat → List Plc) (i j : Nat) : atI (ZA PP i) i (List.replicate (PP i).length (mP i)) j = ZA PP (i + 1) j := by
  unfold atI ZA
  by_cases e : j = i
  · subst e
    rw [if_pos rfl, if_pos (by omega)]
  · rw [if_neg e]
    by_cases h : j < i
    · rw [if_pos h, if_pos (by omega)]
    · rw [if_neg h, if_neg (by omega)]
theorem atI_f {α β : Type} (F : α → β) (f : Nat → α) (i : Nat) (x y : α) (j : Nat) : (if j = i then F y else F (atI f i x j)) = F (atI f i y j) := by
  unfold atI
  by_cases e : j = i
  · rw [if_pos e, if_pos e]
  · rw [if_neg e, if_neg e, if_neg e]
theorem ins_lenN (bs : List Nat) : (ins .u8 (nums bs)).length = bs.length := by rw [ins_len, nums_len]
/-- What the lists are behind the longer ones: i of them have grown. -/
def tN (t : Nat) (N : Nat → Nat) (i j : Nat) : Nat := if j < i then N j + t else N j
def tX (s : Nat → List Value) (X : Nat → List Value) (i j : Nat) : List Value := if j < i then X j ++ s j else X j
theorem tN_at (t : Nat) (N : Nat → Nat) (i : Nat) : tN t N i i = N i := if_neg (by omega)
theorem tX_at (s : Nat → List Value) (X : Nat → List Value) (i : Nat) : tX s X i i = X i := if_neg (by omega)
theorem tN_in (t : Nat) (N : Nat → Nat) {i j : Nat} (h : j < i) : tN t N i j = N j + t := if_pos h
theorem tX_in (s : Nat → List Value) (X : Nat → List Value) {i j : Nat} (h : j < i) : tX s X i j = X j ++ s j := if_pos h
theorem tN_next (t : Nat) (N : Nat → Nat) (i j : Nat) : (if j = i then N i + t else tN t N i j) = tN t N (i + 1) j := by
  unfold tN
  by_cases e : j = i
  · subst e
    rw [if_pos rfl, if_pos (by omega)]
  · rw [if_neg e]
    by_cases h : j < i
    · rw [if_pos h, if_pos (by omega)]
    · rw [if_neg h, if_neg (by omega)]
theorem tX_next (s : Nat → List Value) (X : Nat → List Value) (i j : Nat) : (if j = i then X i ++ s i else tX s X i j) = tX s X (i + 1) j := by
  unfold tX
  by_cases e : j = i
  · subst e
    rw [if_pos rfl, if_pos (by omega)]
  · rw [if_neg e]
    by_cases h : j < i
    · rw [if_pos h, if_pos (by omega)]
    · rw [if_neg h, if_neg (by omega)]
def sB (j : Nat) : List Value := (nums (List.replicate 300 (100 + j))).map (Value.int .u8)
def sR (j : Nat) : List Value := rcs [⟨0, -1 - (j : Int)⟩]
def sP (j : Nat) : List Value := pls [⟨0, ⟨0, 0⟩, -1 - (j : Int)⟩]
theorem sR_cell (j : Nat) : ∀ u ∈ sR j, u.oneCell' = true := rcs_cell _
theorem sP_cell (j : Nat) : ∀ u ∈ sP j, u.oneCell' = true := pls_cell _
/-- In the region that lengthens the bytes: before the tail, behind it, behind the append. -/
def TlJ (w1 wr : World) (R : Nat × Nat → Option R9) (k bl : Nat) (xs : List Value) (q : Nat) (v6 v7 : Value) (ww : World) : Prop :=
  (q ≤ 1 → Chg (fun _ => False) wr ww) ∧ (q = 1 → ∃ ta tc, v6 = .slice ta 300 tc ∧ ByO ww w1.heap.size (.slice ta 300 tc) (List.replicate 300 (100 + k))) ∧
  (q = 2 → ∃ a d, v7 = .slice a (bl + 300) d ∧ Rws w1.heap.size ww (upR R (1, k) ⟨5, 1, .slice a (bl + 300) d, bl + 300, xs ++ sB k⟩) ∧ Chg (fun _ => False) w1 ww)
/-- In the region that compares the tails. -/
def TjI (w1 wr : World) (k q : Nat) (v : Value) (ww : World) : Prop :=
  Chg (fun _ => False) wr ww ∧ (q = 1 → ∃ ta tc, v = .slice ta 300 tc ∧ ByO ww w1.heap.size (.slice ta 300 tc) (List.replicate 300 (100 + k)))
theorem XA_tail (BB : Nat → List Nat) {k : Nat} (h : k < 3) : XA BB 3 k ++ sB k = ins .u8 (nums (List.replicate (BB k).length k ++ List.replicate 300 (100 + k))) := by
  unfold XA sB mB
  rw [if_pos h]
  generalize 300 = n
  simp [ins, nums]
theorem tail_at (s k n t x : Nat) (h : t < s) : (ins .u8 (nums (List.replicate s k ++ List.replicate n x)))[t]? = some (.int .u8 (k : Int)) := by
  unfold ins nums
  rw [List.map_map, List.getElem?_map, List.getElem?_append_left (by simpa using h)]
  simp [h]
theorem tail_drop (s k n x : Nat) : ((List.replicate s k ++ List.replicate n x).drop s).take n = List.replicate n x := by
  rw [List.drop_left' (by simp)]
  simp
theorem tail_len (s k n x : Nat) : (List.replicate s k ++ List.replicate n x).length = s + n := by simp
theorem YA_tail (SL : Nat → List Rec) {k : Nat} (h : k < 3) : rcs (YA SL 3 k) ++ sR k = rcs (List.replicate (SL k).length (mR k) ++ [⟨0, -1 - (k : Int)⟩]) := by
  unfold YA sR
  rw [if_pos h, rcs_app]
theorem ZA_tail (PP : Nat → List Plc) {k : Nat} (h : k < 3) : pls (ZA PP 3 k) ++ sP k = pls (List.replicate (PP k).length (mP k) ++ [⟨0, ⟨0, 0⟩, -1 - (k : Int)⟩]) := by
  unfold ZA sP
  rw [if_pos h, pls_app]
theorem two_at {α : Type} (m t : Nat) (x y : α) (h : t < m) : (List.replicate m x ++ [y])[t]? = some x := by
  rw [List.getElem?_append_left (by simpa using h)]
  simp [h]
theorem two_end {α : Type} (m : Nat) (x y : α) : (List.replicate m x ++ [y])[m]? = some y := by
  rw [List.getElem?_append_right (by simp)]
  simp
end Go.Proofs.YtehfcfpbjenmjaaDoor
