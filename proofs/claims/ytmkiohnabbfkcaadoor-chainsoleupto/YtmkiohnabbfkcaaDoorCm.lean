/- Mathematics of chunks' heads and dictionaries; of no statement by itself. -/
import Derived.Test.YtmkiohnabbfkcaaDoorSm
namespace Go.Proofs.YtmkiohnabbfkcaaDoor
open St12
set_option linter.unusedVariables false
set_option linter.unusedSimpArgs false
/-- A chunk's head. -/
structure Chk where
  k : Int
  s : Int
  p : Int
  lc : Int
  lp : Int
  pb : Int
namespace Ck17
def zeroC : Chk := ⟨0, 0, 0, 0, 0, 0⟩
def five (k s p : Int) : List Nat := [128 + 32 * (k - 3).toNat + (s - 1).toNat / 65536, (s - 1).toNat / 256 % 256, (s - 1).toNat % 256, (p - 1).toNat / 256, (p - 1).toNat % 256]
/-- What Put answers. -/
def putA (c : Chk) : List Nat × Int :=
  if c.k < 0 ∨ 6 < c.k then ([], 6)
  else if c.k = 0 then (if c.s ≠ 0 ∨ c.p ≠ 0 then ([], 7) else ([0], 0))
  else if c.k < 3 then (if (c.s < 1 ∨ 65536 < c.s) ∨ c.p ≠ c.s then ([], 7) else ([c.k.toNat, (c.s - 1).toNat / 256, (c.s - 1).toNat % 256], 0))
  else if ((c.s < 1 ∨ 2097152 < c.s) ∨ c.p < 1) ∨ 65536 < c.p then ([], 7)
  else if c.k < 5 then (five c.k c.s c.p, 0)
  else if (byteP ⟨c.lc, c.lp, c.pb⟩).2 ≠ 0 then ([], 6)
  else (five c.k c.s c.p ++ [(byteP ⟨c.lc, c.lp, c.pb⟩).1.toNat], 0)
/-- How many bytes a head has that begins so (0: none begins so). -/
def wantN (f : Nat) : Nat := if f = 0 then 1 else if f < 3 then 3 else if f < 128 then 0 else if f < 192 then 5 else 6
def at_ (bs : List Nat) (i : Nat) : Nat := bs.getD i 0
/-- What Get answers. -/
def getA (bs : List Nat) : Chk × Nat × Int :=
  if bs.length = 0 then (zeroC, 0, 1)
  else if at_ bs 0 = 0 then (zeroC, 1, 0)
  else if 2 < at_ bs 0 ∧ at_ bs 0 < 128 then (zeroC, 0, 2)
  else if bs.length < wantN (at_ bs 0) then (zeroC, 0, 1)
  else if at_ bs 0 < 3 then (⟨at_ bs 0, ((256 * at_ bs 1 + at_ bs 2 + 1 : Nat) : Int), ((256 * at_ bs 1 + at_ bs 2 + 1 : Nat) : Int), 0, 0, 0⟩, 3, 0)
  else if at_ bs 0 < 192 then (⟨((3 + at_ bs 0 / 32 - 4 : Nat) : Int), ((256 * at_ bs 1 + at_ bs 2 + 1 + 65536 * (at_ bs 0 % 32) : Nat) : Int), ((256 * at_ bs 3 + at_ bs 4 + 1 : Nat) : Int), 0, 0, 0⟩, 5, 0)
  else if (propsB (at_ bs 5 : Int)).2 ≠ 0 then (zeroC, 0, 2)
  else (⟨((3 + at_ bs 0 / 32 - 4 : Nat) : Int), ((256 * at_ bs 1 + at_ bs 2 + 1 + 65536 * (at_ bs 0 % 32) : Nat) : Int), ((256 * at_ bs 3 + at_ bs 4 + 1 : Nat) : Int), (propsB (at_ bs 5 : Int)).1.lc, (propsB (at_ bs 5 : Int)).1.lp, (propsB (at_ bs 5 : Int)).1.pb⟩, 6, 0)
/-- The dictionary that a byte tells; the least byte. -/
def dic (b : Nat) : Nat := if b = 40 then 4294967295 else (2 + b % 2) * 2 ^ (b / 2 + 11)
def byteD (b : Int) : Int × Int := if b < 0 ∨ 255 < b then (0, 7) else if 40 < b then (0, 4) else ((dic b.toNat : Nat), 0)
def dbF (n : Nat) : Nat → Nat → Nat
  | _, 0 => 40
  | b, k + 1 => if n ≤ dic b then b else dbF n (b + 1) k
def dictB (n : Int) : Int × Int := if n < 0 ∨ 4294967295 < n then (0, 7) else ((dbF n.toNat 0 40 : Nat), 0)
theorem dig_put (c : Chk) : ∀ x ∈ (putA c).1, x < 256 := by
  intro x hx
  unfold putA at hx
  split at hx
  · cases hx
  · split at hx
    · split at hx
      · cases hx
      · rw [List.mem_singleton.1 hx]; decide
    · split at hx
      · split at hx
        · cases hx
        · simp only [List.mem_cons, List.not_mem_nil, or_false] at hx
          omega
      · split at hx
        · cases hx
        · have h5 : ∀ x ∈ five c.k c.s c.p, x < 256 := fun x hx => by
            unfold five at hx
            simp only [List.mem_cons, List.not_mem_nil, or_false] at hx
            omega
          split at hx
          · exact h5 x hx
          · split at hx
            · cases hx
            · rcases List.mem_append.1 hx with h | h
              · exact h5 x h
              · rw [List.mem_singleton.1 h]
                unfold byteP
                split
                · next ha =>
                  obtain ⟨⟨h1, h2, h3⟩, h4, h5⟩ := ha
                  simp only at h1 h2 h3 h4 h5 ⊢
                  omega
                · decide
theorem len_put (c : Chk) : (putA c).1.length ≤ 6 := by
  unfold putA five
  repeat (first | split | simp)
theorem put_err (c : Chk) : (putA c).2 = 0 ∨ (putA c).1 = [] ∧ ((putA c).2 = 6 ∨ (putA c).2 = 7) := by
  unfold putA
  repeat (first | split | simp)
/-- The chunk as it is read back. -/
def back (c : Chk) : Chk := if c.k < 5 then ⟨c.k, c.s, c.p, 0, 0, 0⟩ else c
theorem at_cons (x : Nat) (l : List Nat) (i : Nat) : at_ (x :: l) (i + 1) = at_ l i := by unfold at_; simp
theorem at_zero (x : Nat) (l : List Nat) : at_ (x :: l) 0 = x := rfl
/-- What is put is got, with anything behind it. -/
theorem there (c : Chk) (t : List Nat) (h : (putA c).2 = 0) : getA ((putA c).1 ++ t) = (back c, (putA c).1.length, 0) ∧ 1 ≤ (putA c).1.length := by
  obtain ⟨k, s, p, lc, lp, pb⟩ := c
  unfold putA at h ⊢
  simp only at h ⊢
  split at h
  · cases h
  · next h0 =>
    rw [if_neg h0]
    split at h
    · next hk =>
      subst hk
      rw [if_pos rfl]
      split at h
      · cases h
      · next h1 =>
        rw [if_neg h1]
        have : s = 0 ∧ p = 0 := by omega
        obtain ⟨rfl, rfl⟩ := this
        refine ⟨?_, by simp⟩
        unfold getA back
        simp [at_, zeroC]
    · next hk =>
      rw [if_neg hk]
      split at h
      · next hk3 =>
        rw [if_pos hk3]
        split at h
        · cases h
        · next h1 =>
          rw [if_neg h1]
          have hp : p = s := by omega
          subst hp
          refine ⟨?_, by simp⟩
          have hk' : k = 1 ∨ k = 2 := by omega
          have e : (256 * ((p - 1).toNat / 256) + (p - 1).toNat % 256 + 1 : Nat) = p.toNat := by omega
          have hpos : ((p.toNat : Nat) : Int) = p := by omega
          unfold getA back
          simp only [List.cons_append, List.nil_append, at_cons, at_zero, List.length_cons]
          have hl : ¬ (t.length + 1 + 1 + 1 < 3) := by omega
          rcases hk' with rfl | rfl
          · simp [wantN, hl]; omega
          · simp [wantN, hl]; omega
      · next hk3 =>
        rw [if_neg hk3]
        split at h
        · cases h
        · next h1 =>
          rw [if_neg h1]
          have hs : 1 ≤ s ∧ s ≤ 2097152 ∧ 1 ≤ p ∧ p ≤ 65536 := by omega
          have f1 : (256 * ((s - 1).toNat / 256 % 256) + (s - 1).toNat % 256 + 1 + 65536 * ((128 + 32 * (k - 3).toNat + (s - 1).toNat / 65536) % 32) : Nat) = s.toNat := by omega
          have f2 : (256 * ((p - 1).toNat / 256) + (p - 1).toNat % 256 + 1 : Nat) = p.toNat := by omega
          have f3 : (3 + (128 + 32 * (k - 3).toNat + (s - 1).toNat / 65536) / 32 - 4 : Nat) = k.toNat := by omega
          have g1 : ((s.toNat : Nat) : Int) = s := by omega
          have g2 : ((p.toNat : Nat) : Int) = p := by omega
          have g3 : ((k.toNat : Nat) : Int) = k := by omega
          have q0 : ¬ (128 + 32 * (k - 3).toNat + (s - 1).toNat / 65536 = 0) := by omega
          have q1 : ¬ (2 < 128 + 32 * (k - 3).toNat + (s - 1).toNat / 65536 ∧ 128 + 32 * (k - 3).toNat + (s - 1).toNat / 65536 < 128) := by omega
          have q2 : ¬ (128 + 32 * (k - 3).toNat + (s - 1).toNat / 65536 < 3) := by omega
          split at h
          · next hk5 =>
            rw [if_pos hk5]
            refine ⟨?_, by unfold five; simp⟩
            have q3 : 128 + 32 * (k - 3).toNat + (s - 1).toNat / 65536 < 192 := by omega
            have qw : wantN (128 + 32 * (k - 3).toNat + (s - 1).toNat / 65536) = 5 := by unfold wantN; rw [if_neg q0, if_neg q2, if_neg (by omega), if_pos q3]
            have hl : ¬ (t.length + 1 + 1 + 1 + 1 + 1 < 5) := by omega
            unfold getA back five
            simp only [List.cons_append, List.nil_append, at_cons, at_zero, List.length_cons, qw, if_neg q0, if_neg q1, if_neg q2, if_pos q3, if_neg hl, f1, f2, f3, g1, g2, g3, if_pos hk5]
            simp
          · next hk5 =>
            rw [if_neg hk5]
            split at h
            · cases h
            · next hb =>
              rw [if_neg hb]
              have ha : allow ⟨lc, lp, pb⟩ := by
                by_cases ha : allow ⟨lc, lp, pb⟩
                · exact ha
                · exact absurd (by unfold byteP; rw [if_neg ha]; decide) hb
              have hbv : byteP ⟨lc, lp, pb⟩ = ((5 * pb + lp) * 9 + lc, 0) := by unfold byteP; rw [if_pos ha]
              have ht := told_of ha
              simp only at ht
              have hrng := ha
              obtain ⟨⟨r1, r2, r3⟩, r4, r5⟩ := hrng
              simp only at r1 r2 r3 r4 r5
              have hpb : propsB ((((5 * pb + lp) * 9 + lc).toNat : Nat) : Int) = (⟨lc, lp, pb⟩, 0) := by
                rw [show ((((5 * pb + lp) * 9 + lc).toNat : Nat) : Int) = (5 * pb + lp) * 9 + lc by omega]
                unfold propsB
                rw [if_neg (by omega), ht, if_pos ha]
              refine ⟨?_, by unfold five; simp⟩
              have q3 : ¬ (128 + 32 * (k - 3).toNat + (s - 1).toNat / 65536 < 192) := by omega
              have qw : wantN (128 + 32 * (k - 3).toNat + (s - 1).toNat / 65536) = 6 := by unfold wantN; rw [if_neg q0, if_neg q2, if_neg (by omega), if_neg q3]
              have hl : ¬ (t.length + 1 + 1 + 1 + 1 + 1 + 1 < 6) := by omega
              unfold getA back five
              rw [hbv]
              simp only [List.cons_append, List.nil_append, at_cons, at_zero, List.length_cons, qw, if_neg q0, if_neg q1, if_neg q2, if_neg q3, if_neg hl, f1, f2, f3, g1, g2, g3, if_neg hk5, hpb]
              simp
theorem shape (c : Chk) (h : (putA c).2 = 0) : (putA c).1 = [0] ∨ ∃ f r, (putA c).1 = f :: r ∧ f ≠ 0 ∧ ¬ (2 < f ∧ f < 128) ∧ wantN f = (putA c).1.length := by
  obtain ⟨k, s, p, lc, lp, pb⟩ := c
  unfold putA at h ⊢
  simp only at h ⊢
  split at h
  · cases h
  · next h0 =>
    rw [if_neg h0]
    split at h
    · next hk =>
      rw [if_pos hk]
      split at h
      · cases h
      · next h1 => rw [if_neg h1]; exact .inl rfl
    · next hk =>
      rw [if_neg hk]
      split at h
      · next hk3 =>
        rw [if_pos hk3]
        split at h
        · cases h
        · next h1 =>
          rw [if_neg h1]
          have hk' : k = 1 ∨ k = 2 := by omega
          rcases hk' with rfl | rfl
          · exact .inr ⟨_, _, rfl, by decide, by decide, rfl⟩
          · exact .inr ⟨_, _, rfl, by decide, by decide, rfl⟩
      · next hk3 =>
        rw [if_neg hk3]
        split at h
        · cases h
        · next h1 =>
          rw [if_neg h1]
          have q0 : ¬ (128 + 32 * (k - 3).toNat + (s - 1).toNat / 65536 = 0) := by omega
          have q1 : ¬ (2 < 128 + 32 * (k - 3).toNat + (s - 1).toNat / 65536 ∧ 128 + 32 * (k - 3).toNat + (s - 1).toNat / 65536 < 128) := by omega
          have q2 : ¬ (128 + 32 * (k - 3).toNat + (s - 1).toNat / 65536 < 3) := by omega
          split at h
          · next hk5 =>
            rw [if_pos hk5]
            exact .inr ⟨_, _, rfl, q0, q1, by unfold wantN five; rw [if_neg q0, if_neg q2, if_neg (by omega), if_pos (by omega)]; rfl⟩
          · next hk5 =>
            rw [if_neg hk5]
            split at h
            · cases h
            · next hb =>
              rw [if_neg hb]
              exact .inr ⟨_, _, rfl, q0, q1, by unfold wantN five; rw [if_neg q0, if_neg q2, if_neg (by omega), if_neg (by omega)]; rfl⟩
/-- Every beginning is cut off. -/
theorem cut (c : Chk) (h : (putA c).2 = 0) (i : Nat) (hi : i < (putA c).1.length) : getA ((putA c).1.take i) = (zeroC, 0, 1) := by
  rcases shape c h with e | ⟨f, r, e, h1, h2, h3⟩
  · rw [e] at hi ⊢
    obtain rfl : i = 0 := by simpa using hi
    rfl
  · rw [e] at hi h3 ⊢
    cases i with
    | zero => rfl
    | succ i =>
      rw [List.take_succ_cons]
      unfold getA
      have hl : (f :: r.take i).length = i + 1 := by
        simp at hi ⊢
        omega
      rw [if_neg (by rw [hl]; omega), at_zero, if_neg h1, if_neg h2, if_pos (by rw [hl, h3]; exact hi)]
/-- The properties of a byte are put as that byte. -/
theorem props_back {b : Nat} (hb : b < 256) (h : (propsB (b : Int)).2 = 0) : byteP (propsB (b : Int)).1 = ((b : Int), 0) := by
  unfold propsB at h ⊢
  rw [if_neg (by omega)] at h ⊢
  split at h
  · next ha =>
    rw [if_pos ha]
    have hlt : (b : Int) < 225 := by
      have h5 := ha.2.2
      unfold told at h5
      simp only at h5
      omega
    unfold byteP
    rw [if_pos ha]
    have := of_told (b : Int) ⟨by omega, hlt⟩
    rw [this]
  · cases h
theorem props_bad {b : Nat} (hb : b < 256) (h : (propsB (b : Int)).2 ≠ 0) : ¬ (b < 225 ∧ b % 45 / 9 + b % 9 ≤ 4) := by
  intro ⟨h1, h2⟩
  apply h
  unfold propsB
  rw [if_neg (by omega), if_pos]
  unfold allow told
  simp only
  omega
theorem props_rng {b : Nat} (h : (propsB (b : Int)).2 = 0) : allow (propsB (b : Int)).1 := by
  unfold propsB at h ⊢
  split at h
  · cases h
  · next h0 =>
    rw [if_neg h0]
    split at h
    · next ha => rw [if_pos ha]; exact ha
    · cases h
/-- What Get says, of all bytes that begin with f. -/
theorem sole (f : Nat) (b : List Nat) (hf : f < 256) (hb : ∀ x ∈ b, x < 256) :
    ((getA (f :: b)).2.2 = 0 ∧ (f < 3 ∨ 128 ≤ f) ∧ (getA (f :: b)).2.1 = wantN f ∧ wantN f ≤ (f :: b).length ∧ putA (getA (f :: b)).1 = ((f :: b).take (wantN f), 0)) ∨
    ((getA (f :: b)).2.2 = 1 ∧ (f < 3 ∨ 128 ≤ f) ∧ (getA (f :: b)).2.1 = 0 ∧ (f :: b).length < wantN f) ∨
    ((getA (f :: b)).2.2 = 2 ∧ (getA (f :: b)).2.1 = 0 ∧ ((3 ≤ f ∧ f < 128) ∨ (192 ≤ f ∧ 6 ≤ (f :: b).length ∧ ¬ (at_ (f :: b) 5 < 225 ∧ at_ (f :: b) 5 % 45 / 9 + at_ (f :: b) 5 % 9 ≤ 4)))) := by
  have hat : ∀ i, at_ (f :: b) i < 256 := fun i => by
    unfold at_
    rw [List.getD_eq_getElem?_getD]
    cases e : (f :: b)[i]? with
    | none => simp
    | some x =>
      rcases List.mem_cons.1 (List.mem_of_getElem? e) with h | h
      · rw [h]; exact hf
      · exact hb x h
  by_cases h0 : f = 0
  · subst h0
    refine .inl ⟨by simp [getA, at_zero], by omega, by simp [getA, at_zero, wantN], by simp [wantN], ?_⟩
    simp [getA, at_zero, wantN, putA, zeroC]
  · by_cases h1 : 2 < f ∧ f < 128
    · refine .inr (.inr ⟨by simp [getA, at_zero, h0, h1], by simp [getA, at_zero, h0, h1], .inl (by omega)⟩)
    · by_cases h2 : (f :: b).length < wantN f
      · have e : getA (f :: b) = (zeroC, 0, 1) := by unfold getA; rw [if_neg (by simp), at_zero, if_neg h0, if_neg h1, if_pos h2]
        rw [e]
        exact .inr (.inl ⟨rfl, by omega, rfl, h2⟩)
      · by_cases h3 : f < 3
        · have e : getA (f :: b) = (⟨f, ((256 * at_ (f :: b) 1 + at_ (f :: b) 2 + 1 : Nat) : Int), ((256 * at_ (f :: b) 1 + at_ (f :: b) 2 + 1 : Nat) : Int), 0, 0, 0⟩, 3, 0) := by
            unfold getA
            rw [if_neg (by simp), at_zero, if_neg h0, if_neg h1, if_neg h2, if_pos h3]
          have hw : wantN f = 3 := by unfold wantN; rw [if_neg h0, if_pos h3]
          rw [e]
          refine .inl ⟨rfl, by omega, hw.symm, by omega, ?_⟩
          rw [hw] at h2 ⊢
          match b, h2 with
          | b1 :: b2 :: r, _ =>
            have a1 := hat 1
            have a2 := hat 2
            simp only [at_cons, at_zero] at a1 a2 ⊢
            unfold putA
            simp only
            rw [if_neg (by omega), if_neg (by omega), if_pos (by omega), if_neg (by omega)]
            simp only [List.take_succ_cons, List.take_zero, Prod.mk.injEq, List.cons.injEq, and_true]
            omega
          | [b1], h => simp at h
          | [], h => simp at h
        · by_cases h4 : f < 192
          · have e : getA (f :: b) = (⟨((3 + f / 32 - 4 : Nat) : Int), ((256 * at_ (f :: b) 1 + at_ (f :: b) 2 + 1 + 65536 * (f % 32) : Nat) : Int), ((256 * at_ (f :: b) 3 + at_ (f :: b) 4 + 1 : Nat) : Int), 0, 0, 0⟩, 5, 0) := by
              unfold getA
              rw [if_neg (by simp), at_zero, if_neg h0, if_neg h1, if_neg h2, if_neg h3, if_pos h4]
            have hw : wantN f = 5 := by unfold wantN; rw [if_neg h0, if_neg h3, if_neg (by omega), if_pos h4]
            rw [e]
            refine .inl ⟨rfl, by omega, hw.symm, by omega, ?_⟩
            rw [hw] at h2 ⊢
            match b, h2 with
            | b1 :: b2 :: b3 :: b4 :: r, _ =>
              have a1 := hat 1
              have a2 := hat 2
              have a3 := hat 3
              have a4 := hat 4
              simp only [at_cons, at_zero] at a1 a2 a3 a4 ⊢
              unfold putA
              simp only
              rw [if_neg (by omega), if_neg (by omega), if_neg (by omega), if_neg (by omega), if_pos (by omega)]
              unfold five
              simp only [List.take_succ_cons, List.take_zero, Prod.mk.injEq, List.cons.injEq, and_true]
              omega
            | [b1, b2, b3], h => simp at h
            | [b1, b2], h => simp at h
            | [b1], h => simp at h
            | [], h => simp at h
          · have hw : wantN f = 6 := by unfold wantN; rw [if_neg h0, if_neg h3, if_neg (by omega), if_neg h4]
            by_cases h5 : (propsB (at_ (f :: b) 5 : Int)).2 ≠ 0
            · have e : getA (f :: b) = (zeroC, 0, 2) := by
                unfold getA
                rw [if_neg (by simp), at_zero, if_neg h0, if_neg h1, if_neg h2, if_neg h3, if_neg h4, if_pos h5]
              rw [e]
              exact .inr (.inr ⟨rfl, rfl, .inr ⟨by omega, by omega, props_bad (hat 5) h5⟩⟩)
            · have e : getA (f :: b) = (⟨((3 + f / 32 - 4 : Nat) : Int), ((256 * at_ (f :: b) 1 + at_ (f :: b) 2 + 1 + 65536 * (f % 32) : Nat) : Int), ((256 * at_ (f :: b) 3 + at_ (f :: b) 4 + 1 : Nat) : Int), (propsB (at_ (f :: b) 5 : Int)).1.lc, (propsB (at_ (f :: b) 5 : Int)).1.lp, (propsB (at_ (f :: b) 5 : Int)).1.pb⟩, 6, 0) := by
                unfold getA
                rw [if_neg (by simp), at_zero, if_neg h0, if_neg h1, if_neg h2, if_neg h3, if_neg h4, if_neg h5]
              rw [e]
              refine .inl ⟨rfl, by omega, hw.symm, by omega, ?_⟩
              rw [hw] at h2 ⊢
              have hpb := props_back (hat 5) (by simpa using h5)
              match b, h2 with
              | b1 :: b2 :: b3 :: b4 :: b5 :: r, _ =>
                have a1 := hat 1
                have a2 := hat 2
                have a3 := hat 3
                have a4 := hat 4
                simp only [at_cons, at_zero] at a1 a2 a3 a4 hpb ⊢
                unfold putA
                simp only
                rw [if_neg (by omega), if_neg (by omega), if_neg (by omega), if_neg (by omega), if_neg (by omega), hpb, if_neg (by simp)]
                unfold five
                simp only [List.take_succ_cons, List.take_zero, Prod.mk.injEq, List.cons.injEq, and_true, List.cons_append, List.nil_append, Int.toNat_natCast]
                omega
              | [b1, b2, b3, b4], h => simp at h
              | [b1, b2, b3], h => simp at h
              | [b1, b2], h => simp at h
              | [b1], h => simp at h
              | [], h => simp at h
theorem dic_up : ∀ b, b < 40 → dic b < dic (b + 1) := by decide +kernel
theorem dic_back : ∀ b, b < 41 → dbF (dic b) 0 40 = b := by decide +kernel
theorem dic_rng : ∀ b, b < 41 → 1 ≤ dic b ∧ dic b ≤ 4294967295 := by decide +kernel
theorem dbF_spec (n : Nat) : ∀ k b, b + k = 40 → b ≤ dbF n b k ∧ dbF n b k ≤ 40 ∧ (n ≤ 4294967295 → n ≤ dic (dbF n b k)) ∧ ∀ j, b ≤ j → j < dbF n b k → dic j < n
  | 0, b, h => ⟨by simp [dbF]; omega, by simp [dbF], fun hn => by simp [dbF, dic]; omega, fun j h1 h2 => by simp [dbF] at h2; omega⟩
  | k + 1, b, h => by
    unfold dbF
    split
    · next hn => exact ⟨Nat.le_refl _, by omega, fun _ => hn, fun j h1 h2 => by omega⟩
    · next hn =>
      obtain ⟨h1, h2, h3, h4⟩ := dbF_spec n k (b + 1) (by omega)
      refine ⟨by omega, h2, h3, fun j h5 h6 => ?_⟩
      by_cases e : j = b
      · subst e; omega
      · exact h4 j (by omega) h6
end Ck17
end Go.Proofs.YtmkiohnabbfkcaaDoor
