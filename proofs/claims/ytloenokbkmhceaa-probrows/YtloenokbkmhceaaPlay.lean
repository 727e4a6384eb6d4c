/- Rows side by side, the program's and the document's ('Play'): definitions and laws; of no statement by themselves. -/
import Derived.Test.YtloenokbkmhceaaFork
namespace Go.Proofs.Ytloenokbkmhceaa
open Go.RowKit
set_option linter.unusedVariables false

/-- A row of both: the program's Set at a with the slice v, the document's at r with its number n and its slice u; both hold xs. -/
structure It where
  a : Nat
  r : Nat
  v : Value
  n : Int
  u : Value
  xs : List Int

structure Good (w : World) (B : Nat) (x : It) : Prop where
  st : St w B x.a x.v x.xs
  rt : Rt w B x.r x.n x.u x.xs
  inn : In x.xs
  len : x.xs.length ≤ 1048576

theorem Good.keep {w w' : World} {B : Nat} {x : It} {S : Nat → Prop} (h : Good w B x) (hc : Chg S w w') (ha : ¬ S x.a) (hr : ¬ S x.r) (hv : ∀ g, x.v.ownBlock = some g → ¬ S g) (hu : ∀ g, x.u.ownBlock = some g → ¬ S g) : Good w' B x :=
  ⟨h.st.keep hc ha hv, h.rt.keep hc hr hu, h.inn, h.len⟩
theorem Good.new {w w' : World} {B : Nat} {x : It} (h : Good w B x) (hc : Chg (fun _ => False) w w') : Good w' B x := h.keep hc (fun f => f) (fun f => f) (fun _ _ f => f) (fun _ _ f => f)
theorem Good.vb {w : World} {B : Nat} {x : It} (h : Good w B x) {g : Nat} (e : x.v.ownBlock = some g) : ∃ cs, w.heap[g]? = some (.cells cs 61 (0, 0)) := owns_blk h.st.own e
theorem Good.ub {w : World} {B : Nat} {x : It} (h : Good w B x) {g : Nat} (e : x.u.ownBlock = some g) : ∃ cs, w.heap[g]? = some (.cells cs 3 (0, 0)) := owns_blk h.rt.own e

/-- No two of them share. -/
def Apart (x y : It) : Prop := x.a ≠ y.a ∧ x.r ≠ y.r ∧ (∀ g, x.v.ownBlock = some g → y.v.ownBlock ≠ some g) ∧ ∀ g, x.u.ownBlock = some g → y.u.ownBlock ≠ some g

def ptrA (x : It) : Value := .pointer (some ⟨x.a, 0, none⟩)
def ptrR (x : It) : Value := .pointer (some ⟨x.r, 0, none⟩)

/-- The pair of lists at P, each row good, all apart. -/
structure Play (w0 w : World) (P : Nat) (av bv : Value) (its : List It) : Prop where
  chg : Chg (fun _ => False) w0 w
  hP : w0.heap.size ≤ P
  pair : w.heap[P]? = some (.cells #[av, bv] 46 (0, 0))
  ra : w.ownsRow w0.heap.size 28 1 av its.length (its.map ptrA)
  rb : w.ownsRow w0.heap.size 54 1 bv its.length (its.map ptrR)
  good : ∀ i (h : i < its.length), Good w w0.heap.size its[i]
  apart : ∀ i j (hi : i < its.length) (hj : j < its.length), i ≠ j → Apart its[i] its[j]

theorem Play.new {w0 w w' : World} {P : Nat} {av bv : Value} {its : List It} (h : Play w0 w P av bv its) (hc : Chg (fun _ => False) w w') : Play w0 w' P av bv its :=
  ⟨chg_then h.chg hc, h.hP, blk_keep h.pair hc (fun f => f), ownsRow_keep h.ra hc (fun _ _ f => f), ownsRow_keep h.rb hc (fun _ _ f => f), fun i hi => (h.good i hi).new hc, h.apart⟩

/-- What turning the row x may turn. -/
def Foots (x : It) (z : Nat) : Prop := x.v.ownBlock = some z ∨ x.u.ownBlock = some z

theorem Good.foot {w : World} {B : Nat} {x : It} (h : Good w B x) {z : Nat} (f : Foots x z) {t : TypeId} {cs : Array Value} (hb : w.heap[z]? = some (.cells cs t (0, 0))) (h1 : t ≠ 61) (h2 : t ≠ 3) : False := by
  rcases f with f | f
  · obtain ⟨cs', h'⟩ := h.vb f
    exact ty_ne hb h' h1
  · obtain ⟨cs', h'⟩ := h.ub f
    exact ty_ne hb h' h2

theorem Play.put {w0 w w' : World} {P : Nat} {av bv : Value} {its : List It} (h : Play w0 w P av bv its) (k : Nat) (hk : k < its.length) (hc : Chg (Foots its[k]) w w') (xs' : List Int)
    (hG' : Good w' w0.heap.size ⟨its[k].a, its[k].r, its[k].v, its[k].n, its[k].u, xs'⟩) :
    Play w0 w' P av bv (its.set k ⟨its[k].a, its[k].r, its[k].v, its[k].n, its[k].u, xs'⟩) := by
  have hG := h.good k hk
  have mA : (its.set k ⟨its[k].a, its[k].r, its[k].v, its[k].n, its[k].u, xs'⟩).map ptrA = its.map ptrA := by
    rw [List.map_set]
    exact List.ext_getElem? fun i => by
      rw [List.getElem?_set]
      split
      · rename_i e
        subst e
        rw [if_pos (by simpa using hk), List.getElem?_map, List.getElem?_eq_getElem hk]
        rfl
      · rfl
  have mR : (its.set k ⟨its[k].a, its[k].r, its[k].v, its[k].n, its[k].u, xs'⟩).map ptrR = its.map ptrR := by
    rw [List.map_set]
    exact List.ext_getElem? fun i => by
      rw [List.getElem?_set]
      split
      · rename_i e
        subst e
        rw [if_pos (by simpa using hk), List.getElem?_map, List.getElem?_eq_getElem hk]
        rfl
      · rfl
  refine ⟨h.chg.trans hc (fun z f => .inr ?_), h.hP, blk_keep h.pair hc (fun f => hG.foot f h.pair (by decide) (by decide)), ?_, ?_, fun i hi => ?_, fun i j hi hj hne => ?_⟩
  · rcases f with f | f
    · exact (hG.st.own.lt z f).1
    · exact (hG.rt.own.lt z f).1
  · rw [mA, List.length_set]
    exact ownsRow_keep h.ra hc (fun g e f => by obtain ⟨cur, hcur⟩ := owns_blk h.ra e; exact hG.foot f hcur (by decide) (by decide))
  · rw [mR, List.length_set]
    exact ownsRow_keep h.rb hc (fun g e f => by obtain ⟨cur, hcur⟩ := owns_blk h.rb e; exact hG.foot f hcur (by decide) (by decide))
  · by_cases e : i = k
    · subst e
      rw [List.getElem_set_self]
      exact hG'
    · have hi2 : i < its.length := by simpa using hi
      rw [List.getElem_set_ne (fun x => e x.symm)]
      have hA := h.apart i k hi2 hk e
      have gi := h.good i hi2
      refine gi.keep hc (fun f => hG.foot f gi.st.blk (by decide) (by decide)) (fun f => hG.foot f gi.rt.blk (by decide) (by decide)) (fun g e f => ?_) (fun g e f => ?_)
      · rcases f with f | f
        · exact hA.2.2.1 g e f
        · obtain ⟨c1, h1⟩ := gi.vb e
          obtain ⟨c2, h2⟩ := hG.ub f
          exact ty_ne h1 h2 (by decide)
      · rcases f with f | f
        · obtain ⟨c1, h1⟩ := gi.ub e
          obtain ⟨c2, h2⟩ := hG.vb f
          exact ty_ne h1 h2 (by decide)
        · exact hA.2.2.2 g e f
  · have hi2 : i < its.length := by simpa using hi
    have hj2 : j < its.length := by simpa using hj
    have hA := h.apart i j hi2 hj2 hne
    by_cases ei : i = k
    · subst ei
      rw [List.getElem_set_self, List.getElem_set_ne (fun x => hne x)]
      exact hA
    · by_cases ej : j = k
      · subst ej
        rw [List.getElem_set_self, List.getElem_set_ne (fun x => ei x.symm)]
        exact hA
      · rw [List.getElem_set_ne (fun x => ei x.symm), List.getElem_set_ne (fun x => ej x.symm)]
        exact hA

/-- What putting one more row in may turn. -/
def Grows (P : Nat) (av bv : Value) (z : Nat) : Prop := z = P ∨ av.ownBlock = some z ∨ bv.ownBlock = some z

theorem Play.push {w0 w w1 w' : World} {P : Nat} {av bv av' bv' : Value} {its : List It} {x : It} (h : Play w0 w P av bv its) (hc : Chg (fun _ => False) w w1) (hx : Good w1 w0.heap.size x) (ha : w.heap.size ≤ x.a) (hr : w.heap.size ≤ x.r) (hv : ∀ g, x.v.ownBlock = some g → w.heap.size ≤ g) (hu : ∀ g, x.u.ownBlock = some g → w.heap.size ≤ g)
    (hc2 : Chg (Grows P av bv) w1 w') (hp : w'.heap[P]? = some (.cells #[av', bv'] 46 (0, 0))) (hoa : w'.ownsRow w0.heap.size 28 1 av' (its.length + 1) (its.map ptrA ++ [ptrA x])) (hob : w'.ownsRow w0.heap.size 54 1 bv' (its.length + 1) (its.map ptrR ++ [ptrR x])) : Play w0 w' P av' bv' (its ++ [x]) := by
  have h1 := h.new hc
  have miss : ∀ z, Grows P av bv z → ∀ {cs : Array Value} {t : TypeId}, w1.heap[z]? = some (.cells cs t (0, 0)) → t ≠ 46 → t ≠ 28 → t ≠ 54 → False := fun z f cs t hb n1 n2 n3 => by
    rcases f with rfl | f | f
    · exact ty_ne hb h1.pair n1
    · obtain ⟨cur, hcur⟩ := owns_blk h1.ra f
      exact ty_ne hb hcur n2
    · obtain ⟨cur, hcur⟩ := owns_blk h1.rb f
      exact ty_ne hb hcur n3
  have key : ∀ y, Good w1 w0.heap.size y → Good w' w0.heap.size y := fun y gy => by
    refine gy.keep hc2 (fun f => miss _ f gy.st.blk (by decide) (by decide) (by decide)) (fun f => miss _ f gy.rt.blk (by decide) (by decide) (by decide)) (fun g e f => ?_) (fun g e f => ?_)
    · obtain ⟨cs, h2⟩ := gy.vb e
      exact miss _ f h2 (by decide) (by decide) (by decide)
    · obtain ⟨cs, h2⟩ := gy.ub e
      exact miss _ f h2 (by decide) (by decide) (by decide)
  have old : ∀ i (hi : i < its.length), Apart its[i] x ∧ Apart x its[i] := fun i hi => by
    have gi := h.good i hi
    have l1 := lt_of_blk gi.st.blk
    have l2 := lt_of_blk gi.rt.blk
    refine ⟨⟨by omega, by omega, fun g e f => ?_, fun g e f => ?_⟩, ⟨by omega, by omega, fun g e f => ?_, fun g e f => ?_⟩⟩
    · have := (gi.st.own.lt g e).2
      have := hv g f
      omega
    · have := (gi.rt.own.lt g e).2
      have := hu g f
      omega
    · have := (gi.st.own.lt g f).2
      have := hv g e
      omega
    · have := (gi.rt.own.lt g f).2
      have := hu g e
      omega
  refine ⟨h1.chg.trans hc2 (fun z f => .inr ?_), h.hP, hp, by simpa using hoa, by simpa using hob, fun i hi => ?_, fun i j hi hj hne => ?_⟩
  · rcases f with rfl | f | f
    · exact h.hP
    · exact (h.ra.lt z f).1
    · exact (h.rb.lt z f).1
  · by_cases e : i < its.length
    · rw [List.getElem_append_left e]
      exact key _ (h1.good i e)
    · have e2 : i = its.length := by simp at hi; omega
      subst e2
      rw [List.getElem_append_right (Nat.le_refl _)]
      simpa using key _ hx
  · by_cases ei : i < its.length
    · by_cases ej : j < its.length
      · rw [List.getElem_append_left ei, List.getElem_append_left ej]
        exact h.apart i j ei ej hne
      · have e2 : j = its.length := by simp at hj; omega
        subst e2
        rw [List.getElem_append_left ei, List.getElem_append_right (Nat.le_refl _)]
        simpa using (old i ei).1
    · have e2 : i = its.length := by simp at hi; omega
      subst e2
      have ej : j < its.length := by simp at hj; omega
      rw [List.getElem_append_left ej, List.getElem_append_right (Nat.le_refl _)]
      simpa using (old j ej).2

/-- Where the lists lie, and what is in them. -/
theorem Play.a_at {w0 w : World} {P : Nat} {av bv : Value} {its : List It} (h : Play w0 w P av bv its) (hn : 0 < its.length) : ∃ g cap, av = .slice (some ⟨g, 0, none⟩) its.length cap ∧ its.length ≤ cap ∧ ∀ k (hk : k < its.length), w.cell? ⟨g, k, none⟩ = some (.pointer (some ⟨its[k].a, 0, none⟩)) := by
  obtain ⟨g, cap, e, hc, _, _, _, _, hcell⟩ := own_some h.ra hn
  exact ⟨g, cap, e, hc, fun k hk => hcell k _ (by simp [hk, ptrA])⟩
theorem Play.b_at {w0 w : World} {P : Nat} {av bv : Value} {its : List It} (h : Play w0 w P av bv its) (hn : 0 < its.length) : ∃ g cap, bv = .slice (some ⟨g, 0, none⟩) its.length cap ∧ its.length ≤ cap ∧ ∀ k (hk : k < its.length), w.cell? ⟨g, k, none⟩ = some (.pointer (some ⟨its[k].r, 0, none⟩)) := by
  obtain ⟨g, cap, e, hc, _, _, _, _, hcell⟩ := own_some h.rb hn
  exact ⟨g, cap, e, hc, fun k hk => hcell k _ (by simp [hk, ptrR])⟩
end Go.Proofs.Ytloenokbkmhceaa
