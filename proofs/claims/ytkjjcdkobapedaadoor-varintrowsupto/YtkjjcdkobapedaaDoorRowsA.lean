/- What is known of a row of numbers and of their lists while they are laid one behind the other; of no statement by itself. -/
import Derived.Test.YtkjjcdkobapedaaDoorMarked
namespace Go.Proofs.YtkjjcdkobapedaaDoor
open Go.RowKit

/-- The bytes of the first k numbers, one behind the other. -/
def flat (us : List Int) (k : Nat) : List Int := (us.take k).flatMap vb

theorem flat_succ {us : List Int} {k : Nat} {u : Int} (h : us[k]? = some u) : flat us (k + 1) = flat us k ++ vb u := by
  obtain ⟨hl, rfl⟩ := List.getElem?_eq_some_iff.1 h
  rw [flat, List.take_succ_eq_append_getElem hl, List.flatMap_append, List.flatMap_cons, List.flatMap_nil, List.append_nil]
  rfl

theorem flat_all {us : List Int} {k : Nat} {u : Int} (h : us[k]? = some u) : flat us us.length = flat us k ++ (vb u ++ (us.drop (k + 1)).flatMap vb) := by
  obtain ⟨hl, rfl⟩ := List.getElem?_eq_some_iff.1 h
  unfold flat
  rw [List.take_length]
  have e : us = us.take k ++ (us[k] :: us.drop (k + 1)) := by rw [← List.drop_eq_getElem_cons hl, List.take_append_drop]
  exact (congrArg (List.flatMap vb) e).trans (by rw [List.flatMap_append, List.flatMap_cons])

theorem flat_len (us : List Int) (hu : ∀ u ∈ us, u ≤ 9223372036854775807) : ∀ k, k ≤ us.length → (flat us k).length ≤ 9 * k
  | 0, _ => by simp [flat]
  | k + 1, h => by
    have e : us[k]? = some us[k] := List.getElem?_eq_getElem (by omega)
    have ih := flat_len us hu k (by omega)
    have hs := sz_pow (hu us[k] (by simp))
    rw [flat_succ e, List.length_append, vb_length]
    omega

theorem flat_bytes (us : List Int) (k : Nat) : Bytes8 (flat us k) := fun x hx => by
  simp only [flat, List.mem_flatMap] at hx
  obtain ⟨u, _, hx⟩ := hx
  exact vb_bytes u x hx

/-- Behind k numbers: their lists, the list of these, the row. -/
structure R1 (us : List Int) (w0 : World) (k : Nat) (av rv : Value) (ps : List (Nat × Nat)) (w : World) : Prop where
  len : ps.length = k
  pcs : Pcs w0.heap.size w ps (fun i => vb (us.getD i 0))
  inj : Inj ps
  own : w.ownsRow w0.heap.size 24 1 av k (ps.map pcell)
  row : w.ownsRow w0.heap.size 5 1 rv (flat us k).length (cells8 (flat us k))
  off : ∀ (i : Nat) (p : Nat × Nat), ps[i]? = some p → rv.ownBlock ≠ some p.1
  chg : Chg (fun _ => False) w0 w

theorem R1.new {us : List Int} {w0 w w' : World} {k : Nat} {av rv : Value} {ps : List (Nat × Nat)} (h : R1 us w0 k av rv ps w) (hc : Chg (fun _ => False) w w') : R1 us w0 k av rv ps w' :=
  ⟨h.len, h.pcs.new hc, h.inj, ownsRow_keep h.own hc (fun _ _ f => f), ownsRow_keep h.row hc (fun _ _ f => f), h.off, chg_then h.chg hc⟩

theorem R1.more {us : List Int} {w0 w wp w2 w3 : World} {k : Nat} {av av' rv rv' : Value} {ps : List (Nat × Nat)} {u : Int} (h : R1 us w0 k av rv ps w) (hu : us[k]? = some u)
    (hc : Chg (fun _ => False) w wp) (hb : wp.heap[w.heap.size]? = some (.cells (cells8 (vb u)).toArray 5 (0, 0)))
    (ho : w2.ownsRow w0.heap.size 24 1 av' (k + 1) (ps.map pcell ++ [pcell (w.heap.size, sz u)])) (hg : wp.grownBy w2 av.ownBlock)
    (hr : w3.ownsRow w0.heap.size 5 1 rv' ((flat us k).length + sz u) (cells8 (flat us k) ++ cells8 (vb u))) (hg3 : w2.grownBy w3 rv.ownBlock) (hm : Moved w2 rv rv') :
    R1 us w0 (k + 1) av' rv' (ps ++ [(w.heap.size, sz u)]) w3 := by
  have hp := h.new hc
  have hC2 : Chg (fun g => av.ownBlock = some g) wp w2 := (Chg.refl _ wp).grown hg (fun g e => .inl e)
  have hC3 : Chg (fun g => rv.ownBlock = some g) w2 w3 := (Chg.refl _ w2).grown hg3 (fun g e => .inl e)
  have hrl : ∀ g, rv.ownBlock = some g → g < w.heap.size := fun g e => (h.row.lt g e).2
  have hal : ∀ g, av.ownBlock = some g → w0.heap.size ≤ g ∧ g < w.heap.size := fun g e => h.own.lt g e
  have hpl : ∀ (i : Nat) (p : Nat × Nat), ps[i]? = some p → p.1 < w.heap.size := fun i p e => lt_of_blk (h.pcs i p e).2.2
  have hgn : av.ownBlock ≠ some w.heap.size := fun e => by have := (hal _ e).2; omega
  have hs2 : w.heap.size < w2.heap.size := Nat.lt_of_lt_of_le (lt_of_blk hb) hC2.size
  have huD : us.getD k 0 = u := by simp [List.getD, hu]
  have hP2 : Pcs w0.heap.size w2 ps (fun i => vb (us.getD i 0)) := hp.pcs.keep hC2 (fun i p e f => hp.pcs.ne hp.own e f)
  have hP3 : Pcs w0.heap.size w3 ps (fun i => vb (us.getD i 0)) := hP2.keep hC3 (fun i p e f => h.off i p e f)
  have hb2 := blk_keep hb hC2 hgn
  have hb3 := blk_keep hb2 hC3 (fun e => by have := hrl _ e; omega)
  have cases2 : ∀ (i : Nat) (p : Nat × Nat), (ps ++ [(w.heap.size, sz u)])[i]? = some p → (i < k ∧ ps[i]? = some p) ∨ (i = k ∧ p = (w.heap.size, sz u)) := fun i p e => by
    by_cases hi : i < k
    · rw [List.getElem?_append_left (by rw [h.len]; exact hi)] at e
      exact .inl ⟨hi, e⟩
    · have hi2 : i = k := by
        have := (List.getElem?_eq_some_iff.1 e).1
        simp [h.len] at this
        omega
      subst hi2
      rw [List.getElem?_append_right (by rw [h.len]; omega), h.len] at e
      simp at e
      exact .inr ⟨rfl, e.symm⟩
  refine ⟨by simp [h.len], fun i p e => ?_, fun i j p q ep eq e => ?_, ?_, ?_, fun i p e f => ?_, ?_⟩
  · rcases cases2 i p e with ⟨_, e⟩ | ⟨rfl, rfl⟩
    · exact hP3 i p e
    · refine ⟨h.chg.size, ?_, ?_⟩
      · simp only [huD, vb_length]
      · simp only [huD]; exact hb3
  · rcases cases2 i p ep with ⟨_, ep⟩ | ⟨rfl, rfl⟩ <;> rcases cases2 j q eq with ⟨_, eq⟩ | ⟨rfl, rfl⟩
    · exact h.inj i j p q ep eq e
    · have := hpl i p ep; simp only at e; omega
    · have := hpl j q eq; simp only at e; omega
    · rfl
  · rw [List.map_append, List.map_singleton]
    refine ownsRow_keep ho hC3 (fun g e f => ?_)
    obtain ⟨c1, h1⟩ := ownsRow_blk ho e
    obtain ⟨c2, h2⟩ := ownsRow_blk (ownsRow_keep hp.row hC2 (fun g' e' f' => by
      obtain ⟨c3, h3⟩ := ownsRow_blk hp.row e'
      obtain ⟨c4, h4⟩ := ownsRow_blk hp.own f'
      rw [h3] at h4
      simp at h4)) f
    rw [h1] at h2
    simp at h2
  · rw [flat_succ hu, List.length_append, vb_length, ← cells8_append]
    exact hr
  · rcases hm _ f with f | f
    · rcases cases2 i p e with ⟨_, e⟩ | ⟨rfl, rfl⟩
      · exact h.off i p e f
      · have := hrl _ f; simp only at this; omega
    · rcases cases2 i p e with ⟨_, e⟩ | ⟨rfl, rfl⟩
      · have := hpl i p e; omega
      · simp only at f; omega
  · refine (hp.chg.trans hC2 (fun g e => .inr (hal g e).1)).trans hC3 (fun g e => .inr ((h.row.lt g e).1))

/-- A list of bytes is as it was while a list of lists grows. -/
theorem own_cross {w w' : World} {B C : Nat} {r a : Value} {n k : Nat} {xs ys : List Value} (hr : w.ownsRow B 5 1 r n xs) (ha : w.ownsRow C 24 1 a k ys) (hg : w.grownBy w' a.ownBlock) : w'.ownsRow B 5 1 r n xs :=
  ownsRow_keep hr ((Chg.refl (fun g => a.ownBlock = some g) w).grown hg (fun g e => .inl e)) (fun g e f => by
    obtain ⟨c1, h1⟩ := ownsRow_blk hr e
    obtain ⟨c2, h2⟩ := ownsRow_blk ha f
    rw [h1] at h2
    simp at h2)

theorem blk_cross {w w' : World} {C g : Nat} {a : Value} {k : Nat} {ys : List Value} {cs : Array Value} (hb : w.heap[g]? = some (.cells cs 5 (0, 0))) (ha : w.ownsRow C 24 1 a k ys) (hg : w.grownBy w' a.ownBlock) : w'.heap[g]? = some (.cells cs 5 (0, 0)) :=
  blk_keep hb ((Chg.refl (fun g => a.ownBlock = some g) w).grown hg (fun g e => .inl e)) (fun f => by
    obtain ⟨c2, h2⟩ := ownsRow_blk ha f
    rw [hb] at h2
    simp at h2)

/-- A list of numbers that came in. -/
def Row64 (w : World) (ad : Option Addr) (m c : Nat) (vs : List Int) : Prop :=
  vs.length = m ∧ ((ad = none ∧ m = 0 ∧ c = 0) ∨ ∃ x, ad = some x ∧ ∀ j u, (vs.map (Value.int .u64))[j]? = some u → w.cell? (x.add j) = some u)

theorem row64_at {w w' : World} {ad : Option Addr} {m c : Nat} {vs : List Int} (h : Row64 w ad m c vs) (hc : Chg (fun _ => False) w w') {k : Nat} {v : Int} (hk : vs[k]? = some v) : ∃ x, ad = some x ∧ w'.cell? (x.add k) = some (.int .u64 v) := by
  have hl := (List.getElem?_eq_some_iff.1 hk).1
  rcases h.2 with ⟨_, e, _⟩ | ⟨x, rfl, hx⟩
  · have := h.1; omega
  · exact ⟨x, rfl, cell_new hc (hx k _ (by simp [hk]))⟩

/-- The pieces' lengths. -/
theorem R1.sizes {us : List Int} {w0 w : World} {k : Nat} {av rv : Value} {ps : List (Nat × Nat)} (h : R1 us w0 k av rv ps w) (hu : ∀ u ∈ us, u ≤ 9223372036854775807) : (∀ p ∈ ps, 1 ≤ p.2) ∧ (∀ p ∈ ps, p.2 ≤ 9) := by
  have key : ∀ p ∈ ps, 1 ≤ p.2 ∧ p.2 ≤ 9 := fun p hp => by
    obtain ⟨i, hi⟩ := List.mem_iff_getElem?.1 hp
    have hl := (h.pcs i p hi).2.1
    rw [vb_length] at hl
    have hb : us.getD i 0 ≤ 9223372036854775807 := by
      by_cases e : i < us.length
      · simp only [List.getD, List.getElem?_eq_getElem e, Option.getD_some]
        exact hu _ (by simp)
      · simp only [List.getD, List.getElem?_eq_none (show us.length ≤ i by omega), Option.getD_none]
        omega
    have := sz_pow hb
    omega
  exact ⟨fun p hp => (key p hp).1, fun p hp => (key p hp).2⟩

/-- A part of an owned list of bytes. -/
theorem own_part {w : World} {B g n cap : Nat} {xs : List Int} (h : w.ownsRow B 5 1 (.slice (some ⟨g, 0, none⟩) n cap) n (cells8 xs)) (lo : Nat) (ys zs : List Int) (he : xs.drop lo = ys ++ zs) (hlo : lo ≤ n) (c : Nat) : Row8 w (some ⟨g, lo, none⟩) ys.length c ys := by
  refine ⟨rfl, .inr ⟨_, rfl, fun j u hu => ?_⟩⟩
  have hj : j < ys.length := by
    have := (List.getElem?_eq_some_iff.1 hu).1
    simpa using this
  have hl : xs.length = n := by simpa [cells8] using h.1
  have hl2 := congrArg List.length he
  simp only [List.length_drop, List.length_append] at hl2
  have hadd : (⟨g, lo, none⟩ : Addr).add j = ⟨g, lo + j, none⟩ := by unfold Addr.add; split <;> simp_all
  have e2 : xs[lo + j]? = ys[j]? := by
    rw [← List.getElem?_drop, he, List.getElem?_append_left hj]
  rw [hadd, h.cellAt (lo + j) (by omega), ← hu]
  simp only [cells8, List.getElem?_map, e2]

end Go.Proofs.YtkjjcdkobapedaaDoor
