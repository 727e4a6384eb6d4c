/- Filters of one's own that are written over and lengthened; of no statement by themselves. -/
import Derived.Test.YtkncbanodpfccaaDoorHdp
namespace Go.Proofs.YtkncbanodpfccaaDoor
open Go.RowKit
open St12
set_option linter.unusedVariables false
set_option linter.unusedSimpArgs false
theorem own_setS {w : World} {B s : Nat} {e : TypeId} {g n cap : Nat} {xs : List Value} (h : w.ownsRow B e s (.slice (some ⟨g, 0, none⟩) n cap) n xs) (j : Nat) (u : Value) :
    (w.setCell ⟨g, j, none⟩ u).ownsRow B e s (.slice (some ⟨g, 0, none⟩) n cap) n (xs.set j u) := by
  refine ⟨by rw [List.length_set]; exact h.1, ?_⟩
  rcases h.2 with ⟨e0, _⟩ | ⟨g', cap', cur, e0, hb, hg, hc, hm, hs, ht⟩
  · cases e0
  · simp only [Value.slice.injEq, Option.some.injEq, Addr.mk.injEq, true_and, and_true] at e0
    obtain ⟨rfl, rfl⟩ := e0
    have hg2 : w.heap[g]? = some (.cells cur.toList.toArray e (0, 0)) := by rw [hg]
    refine .inr ⟨g, cap, _, rfl, hb, Vint.blk_setk hg2 j u, hc, hm, by simpa using hs, ?_⟩
    rw [← ht]
    simp [List.take_set]
theorem flcs_same {q : List FlV} {i : Nat} {x y : FlV} (hx : q[i]? = some x) (h : y.cells = x.cells) : flcs (q.set i y) = flcs q := by
  have e : (q.set i y).map FlV.cells = q.map FlV.cells := by
    rw [List.map_set, h]
    obtain ⟨hl, hx⟩ := List.getElem?_eq_some_iff.1 hx
    apply List.ext_getElem?
    intro k
    rw [List.getElem?_set]
    split
    · rename_i e; subst e; rw [List.getElem?_map, List.getElem?_eq_getElem hl, hx]; simp [hl]
    · rfl
  unfold flcs
  rw [List.flatMap_def, List.flatMap_def, e]
theorem flcs_id : ∀ (q : List FlV) (i : Nat) (x : FlV) (v : Nat), q[i]? = some x → flcs (q.set i { x with id := v }) = (flcs q).set (i * 2) (.int .u64 (v : Int))
  | [], i, x, v, h => by simp at h
  | a :: q, 0, x, v, h => by
    simp at h
    subst h
    rfl
  | a :: q, i + 1, x, v, h => by
    have ih := flcs_id q i x v (by simpa using h)
    have e1 : ∀ (z : FlV) (t : List FlV), flcs (z :: t) = .int .u64 (z.id : Int) :: .slice z.a z.n z.c :: flcs t := fun _ _ => rfl
    rw [List.set_cons_succ, e1, e1, ih, show (i + 1) * 2 = i * 2 + 1 + 1 by omega, List.set_cons_succ, List.set_cons_succ]
theorem set_at {α : Type} {q : List α} {i k : Nat} {y z : α} (h : (q.set i y)[k]? = some z) : (k = i ∧ z = y ∧ i < q.length) ∨ (k ≠ i ∧ q[k]? = some z) := by
  rw [List.getElem?_set] at h
  split at h
  · rename_i e
    split at h
    · simp only [Option.some.injEq] at h; exact .inl ⟨e.symm, h.symm, by assumption⟩
    · cases h
  · rename_i e; exact .inr ⟨fun f => e f.symm, h⟩
theorem InjF.set {q : List FlV} (h : InjF q) {i : Nat} {x y : FlV} (hx : q[i]? = some x) (h1 : y.a = x.a) (h2 : y.n = x.n) (h3 : y.c = x.c) : InjF (q.set i y) := fun a b u v g ha hb hu hv => by
  have key : ∀ (k : Nat) (z : FlV), (q.set i y)[k]? = some z → ∃ z', q[k]? = some z' ∧ z'.a = z.a ∧ z'.n = z.n ∧ z'.c = z.c := fun k z hk => by
    rcases set_at hk with ⟨rfl, rfl, _⟩ | ⟨_, e⟩
    · exact ⟨x, hx, h1.symm, h2.symm, h3.symm⟩
    · exact ⟨z, e, rfl, rfl, rfl⟩
  obtain ⟨u', e1, e2, e3, e4⟩ := key a u ha
  obtain ⟨v', f1, f2, f3, f4⟩ := key b v hb
  exact h a b u' v' g e1 f1 (by rw [e2, e3, e4]; exact hu) (by rw [f2, f3, f4]; exact hv)
/-- A byte of a filter's properties is written over. -/
theorem Of0.setBs {B : Nat} {w : World} {lv : Value} {q : List FlV} {i : Nat} {x : FlV} {g k v : Nat} (h : Of0 B w lv q) (hj : InjF q) (hx : q[i]? = some x) (hg : x.a = some ⟨g, 0, none⟩) (hk : k < x.n) (hv : v < 256) : Of0 B (w.setCell ⟨g, k, none⟩ (.int .u8 (v : Int))) lv (q.set i { x with bs := x.bs.set k v }) := by
  have hC : Chg (fun z => z = g) w (w.setCell ⟨g, k, none⟩ (.int .u8 (v : Int))) := Chg.setCell (S := fun z => z = g) (Chg.refl _ w) (p := ⟨g, k, none⟩) (.inl rfl) _
  have hxp := h.pcs i x hx
  refine ⟨?_, fun k' y e => ?_⟩
  · unfold FlO
    rw [List.length_set, flcs_same (y := { x with bs := x.bs.set k v }) hx rfl]
    refine owns_keepF h.own hC (fun z e f => ?_)
    subst f
    obtain ⟨c1, h1⟩ := owns_blkF h.own e
    obtain ⟨c2, h2⟩ := ownsRow_blk hxp.1 (g := z) (by rw [hg]; rfl)
    exact ty_ne h1 h2 (by decide)
  · rcases set_at e with ⟨rfl, rfl, _⟩ | ⟨hne, e2⟩
    · refine ⟨?_, hxp.2.1, fun z hz => ?_, hxp.2.2.2⟩
      · have h1 := hxp.1
        simp only
        rw [hg] at h1 ⊢
        exact byO_set h1 hk v
      · rcases List.mem_or_eq_of_mem_set hz with f | f
        · exact hxp.2.2.1 z f
        · omega
    · have hy := h.pcs k' y e2
      refine ⟨ownsRow_keep hy.1 hC (fun z ez f => ?_), hy.2⟩
      subst f
      exact hne (hj k' i y x z e2 hx ez (by rw [hg]; rfl))
/-- A filter's number is written over. -/
theorem Of0.setId {B : Nat} {w : World} {gl n c : Nat} {q : List FlV} {i : Nat} {x : FlV} {v : Nat} (h : Of0 B w (.slice (some ⟨gl, 0, none⟩) n c) q) (hx : q[i]? = some x) (hv : v < 18446744073709551616) : Of0 B (w.setCell ⟨gl, i * 2, none⟩ (.int .u64 (v : Int))) (.slice (some ⟨gl, 0, none⟩) n c) (q.set i { x with id := v }) := by
  have hC : Chg (fun z => z = gl) w (w.setCell ⟨gl, i * 2, none⟩ (.int .u64 (v : Int))) := Chg.setCell (S := fun z => z = gl) (Chg.refl _ w) (p := ⟨gl, i * 2, none⟩) (.inl rfl) _
  have hll : q.length = n := by
    have h1 := h.own.2
    rcases h1 with ⟨e0, _⟩ | ⟨g', cap', cur, e0, _⟩
    · cases e0
    · simp only [Value.slice.injEq] at e0; exact e0.2.1.symm
  refine ⟨?_, fun k' y e => ?_⟩
  · unfold FlO
    rw [List.length_set, flcs_id q i x v hx]
    have h1 := h.own
    unfold FlO at h1
    rw [hll] at h1 ⊢
    exact own_setS h1 _ _
  · have keep : ∀ (k : Nat) (z : FlV), q[k]? = some z → ByO (w.setCell ⟨gl, i * 2, none⟩ (.int .u64 (v : Int))) B (.slice z.a z.n z.c) z.bs := fun k z hz => ownsRow_keep (h.pcs k z hz).1 hC (fun g2 e2 f => by
      subst f
      obtain ⟨c1, h1⟩ := ownsRow_blk (h.pcs k z hz).1 e2
      obtain ⟨c2, h2⟩ := owns_blkF h.own (g := g2) rfl
      exact ty_ne h2 h1 (by decide))
    rcases set_at e with ⟨rfl, rfl, _⟩ | ⟨hne, e2⟩
    · have hp := h.pcs k' x hx
      exact ⟨keep k' x hx, hv, hp.2.2⟩
    · exact ⟨keep k' y e2, (h.pcs k' y e2).2⟩
/-- What begins a list of one's own. -/
theorem byO_pre {w : World} {B g n m c : Nat} {xs ys : List Nat} (h : ByO w B (.slice (some ⟨g, 0, none⟩) m c) (xs ++ ys)) (hx : xs.length = n) : ByO w B (.slice (some ⟨g, 0, none⟩) n c) xs := by
  unfold ByO at h ⊢
  rcases h.2 with ⟨e0, _⟩ | ⟨g', cap', cur, e0, hb, hg, hc, hm, hs, ht⟩
  · cases e0
  · simp only [Value.slice.injEq, Option.some.injEq, Addr.mk.injEq, true_and, and_true] at e0
    obtain ⟨rfl, hml, rfl⟩ := e0
    refine ⟨by simp [ins, nums], .inr ⟨g, c, cur, by rw [hx], hb, hg, by rw [List.length_append] at hc; omega, hm, hs, ?_⟩⟩
    have h9 := congrArg (List.take (xs.length * 1)) ht
    rw [List.take_take, List.length_append, Nat.min_eq_left (by omega)] at h9
    rw [h9, nums_app]
    simp [ins, nums]
theorem own_capH {w : World} {B B' g n n' c c' : Nat} {xs xs' : List Nat} (h : ByO w B (.slice (some ⟨g, 0, none⟩) n c) xs) (h' : ByO w B' (.slice (some ⟨g, 0, none⟩) n' c') xs') : c = c' := by
  unfold ByO at h h'
  rcases h.2 with ⟨e0, _⟩ | ⟨g1, cap1, cur1, e1, hb1, hg1, hc1, hm1, hs1, ht1⟩
  · cases e0
  · rcases h'.2 with ⟨e0, _⟩ | ⟨g2, cap2, cur2, e2, hb2, hg2, hc2, hm2, hs2, ht2⟩
    · cases e0
    · simp only [Value.slice.injEq, Option.some.injEq, Addr.mk.injEq, true_and, and_true] at e1 e2
      obtain ⟨rfl, _, rfl⟩ := e1
      obtain ⟨rfl, _, rfl⟩ := e2
      rw [hg1] at hg2
      simp only [Option.some.injEq, Obj.cells.injEq] at hg2
      obtain ⟨rfl, _⟩ := hg2
      omega
theorem byO_ad {w : World} {B n c : Nat} {a : Option Addr} {bs : List Nat} (h : ByO w B (.slice a n c) bs) : (a = none ∧ bs = []) ∨ ∃ g, a = some ⟨g, 0, none⟩ := by
  unfold ByO at h
  rcases h.2 with ⟨e0, e1⟩ | ⟨g', cap', cur, e0, _⟩
  · simp only [Value.slice.injEq] at e0
    exact .inl ⟨e0.1, List.eq_nil_of_length_eq_zero e1⟩
  · simp only [Value.slice.injEq] at e0
    exact .inr ⟨g', e0.1⟩
/-- A filter's properties that are lengthened: v has m bytes more. -/
structure Ap (B s : Nat) (w : World) (lv : Value) (q : List FlV) (x : FlV) (m : Nat) (va : Option Addr) (vc : Nat) : Prop where
  of : Of0 B w lv q
  own : ByO w B (.slice va (x.n + m) vc) (x.bs ++ List.replicate m 99)
  blk : ∀ g, va = some ⟨g, 0, none⟩ → (x.a = some ⟨g, 0, none⟩ ∧ vc = x.c) ∨ s ≤ g
theorem Ap.start {B s : Nat} {w : World} {lv : Value} {q : List FlV} {i : Nat} {x : FlV} (h : Of0 B w lv q) (hx : q[i]? = some x) : Ap B s w lv q x 0 x.a x.c :=
  ⟨h, by rw [Nat.add_zero, List.replicate_zero, List.append_nil]; exact (h.pcs i x hx).1, fun g e => .inl ⟨e, rfl⟩⟩
theorem Ap.step {B s : Nat} {w w' : World} {lv : Value} {q : List FlV} {x : FlV} {i m : Nat} {va va' : Option Addr} {vc vc' : Nat} (h : Ap B s w lv q x m va vc) (hj : InjF q) (hx : q[i]? = some x) (hlt : ∀ (k : Nat) (y : FlV) (g : Nat), q[k]? = some y → (Value.slice y.a y.n y.c).ownBlock = some g → g < s) (hs : s ≤ w.heap.size) (hxl : x.bs.length = x.n)
    (ho : ByO w' B (.slice va' (x.n + (m + 1)) vc') (x.bs ++ List.replicate (m + 1) 99)) (hg : w.grownBy w' (Value.slice va (x.n + m) vc).ownBlock) (hm : Moved w (.slice va (x.n + m) vc) (.slice va' (x.n + (m + 1)) vc')) (hk : ByO w' B (.slice va (x.n + m) vc) (x.bs ++ List.replicate m 99)) : Ap B s w' lv q x (m + 1) va' vc' := by
  have hC : Chg (fun g => (Value.slice va (x.n + m) vc).ownBlock = some g) w w' := (Chg.refl _ w).grown hg (fun g e => .inl e)
  refine ⟨⟨?_, fun k y e => ⟨?_, (h.of.pcs k y e).2⟩⟩, ho, fun g e => ?_⟩
  · refine owns_keepF h.of.own hC (fun g e f => ?_)
    obtain ⟨c1, h1⟩ := owns_blkF h.of.own e
    obtain ⟨c2, h2⟩ := ownsRow_blk h.own f
    exact ty_ne h1 h2 (by decide)
  · rcases byO_ad h.own with ⟨rfl, _⟩ | ⟨g, rfl⟩
    · exact ownsRow_keep (h.of.pcs k y e).1 hC (fun g e1 e2 => by simp [Value.ownBlock] at e2)
    · by_cases hb : (Value.slice y.a y.n y.c).ownBlock = some g
      · rcases h.blk g rfl with ⟨f1, f2⟩ | f
        · have hki := hj k i y x g e hx hb (by rw [f1]; rfl)
          subst hki
          rw [hx] at e
          simp only [Option.some.injEq] at e
          subst e
          have h1 := byO_pre (n := x.n) hk hxl
          rw [f1, ← f2]
          exact h1
        · have := hlt k y g e hb
          omega
      · exact ownsRow_keep (h.of.pcs k y e).1 hC (fun g1 e1 e2 => by
          simp only [Value.ownBlock, Option.some.injEq] at e2
          subst e2
          exact hb e1)
  · subst e
    rcases hm g rfl with f | f
    · rcases byO_ad h.own with ⟨rfl, _⟩ | ⟨g2, rfl⟩
      · simp [Value.ownBlock] at f
      · simp only [Value.ownBlock, Option.some.injEq] at f
        subst f
        rcases h.blk g2 rfl with ⟨f1, f2⟩ | f3
        · exact .inl ⟨f1, by rw [← f2]; exact own_capH ho hk⟩
        · exact .inr f3
    · exact .inr (Nat.le_trans hs f)
end Go.Proofs.YtkncbanodpfccaaDoor
