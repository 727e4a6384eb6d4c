/- RcdecBack's mathematics: a decoder along the questions that were encoded, whatever lies behind their bytes; of no statement by itself. -/
import Derived.Test.YtejopgopcocapaaBg
namespace Go.Proofs.Ytejopgopcocapaa
open Go.RowKit
set_option linter.unusedVariables false

/-- Behind k of the questions l, all of which may be asked, which were encoded as F from a row of n. -/
structure Bw (c : List Nat) (l : List Q) (n : Nat) (F : Rc.E) (k : Nat) (d : Rc.D) (xs : List Int) : Prop where
  ok : OkD c d
  inn : In31 xs
  len : xs.length = n
  at_ : ∃ e, Rc.Ok e ∧ Rc.Tracks e F d ∧ (encL (l.drop k) e xs) = encL l Rc.start (List.replicate n 1024)
theorem Bw.start {l : List Q} {n : Nat} (tail : List Nat) (ht : Rc.Dig tail) :
    let F := (encL l Rc.start (List.replicate n 1024)).1
    let c := Rc.by_ F ++ tail
    c.getD 0 0 = 0 ∧ Rc.code5 c < 4294967295 ∧ Rc.Dig c ∧ 5 ≤ c.length ∧ Bw c l n F 0 ⟨5, 4294967295, Rc.code5 c⟩ (List.replicate n 1024) := by
  intro F c
  obtain ⟨hw, hok, _⟩ := encL_within l Rc.start_ok (In31.half n)
  have hF : 0 < F.R := by have := hok.lo; show 0 < (encL l Rc.start (List.replicate n 1024)).1.R; omega
  have hb : Rc.Begins F c := Rc.begins_by F tail
  obtain ⟨s1, s2, s3⟩ := Rc.start_tracks hb hw hF
  have h5 : 5 ≤ c.length := by have := hb.1; omega
  refine ⟨s1, s2, fun x hx => ?_, h5, ⟨⟨by show 16777216 ≤ 4294967295; omega, by show 4294967295 ≤ 4294967295; omega, s2, h5⟩, In31.half n, by simp, Rc.start, Rc.start_ok, s3, rfl⟩⟩
  rcases List.mem_append.1 hx with h | h
  · exact Rc.dg_dig _ _ x h
  · exact ht x h
theorem Bw.step {c : List Nat} {l : List Q} {n k : Nat} {d : Rc.D} {xs : List Int} {q : Q} (tail : List Nat) (hc : c = Rc.by_ (encL l Rc.start (List.replicate n 1024)).1 ++ tail) (hdig : Rc.Dig c) (hall : ∀ q ∈ l, q.ok n) (h : Bw c l n (encL l Rc.start (List.replicate n 1024)).1 k d xs) (hq : l[k]? = some q) :
    ∃ d', decA c q d xs = .ok (q.v % 2 ^ q.bits, d', encX q xs) ∧ Bw c l n (encL l Rc.start (List.replicate n 1024)).1 (k + 1) d' (encX q xs) := by
  obtain ⟨e, hO, ht, he⟩ := h.at_
  have hqn := hall q (List.mem_of_getElem? hq)
  have hqx : q.ok xs.length := by rw [h.len]; exact hqn
  obtain ⟨_, hok, _⟩ := encL_within l Rc.start_ok (In31.half n)
  have hF : 0 < (encL l Rc.start (List.replicate n 1024)).1.R := by have := hok.lo; omega
  have hb : Rc.Begins (encL l Rc.start (List.replicate n 1024)).1 c := by rw [hc]; exact Rc.begins_by _ tail
  have he2 := he
  rw [encL_step hq, if_pos hqx] at he2
  have hw : Rc.Within (encE q e xs) (encL l Rc.start (List.replicate n 1024)).1 := by
    rw [← he2]
    exact (encL_within _ (encE_ok hO h.inn q) (encX_in h.inn q)).1
  obtain ⟨d', h1, h2⟩ := step_back hb hF q hO h.inn hqx ht hw
  obtain ⟨_, _, k3, k4, k5⟩ := decA_ok hdig h.ok h.inn h1
  exact ⟨d', h1, k3, k4, by rw [k5]; exact h.len, _, encE_ok hO h.inn q, h2, he2⟩
theorem Bw.end_ {c : List Nat} {l : List Q} {n : Nat} {d : Rc.D} {xs : List Int} (h : Bw c l n (encL l Rc.start (List.replicate n 1024)).1 l.length d xs) : d.n = (encL l Rc.start (List.replicate n 1024)).1.k + 5 ∧ d.C = 0 ∧ xs = (encL l Rc.start (List.replicate n 1024)).2 := by
  obtain ⟨e, hO, ht, he⟩ := h.at_
  rw [List.drop_length] at he
  have e1 : e = (encL l Rc.start (List.replicate n 1024)).1 := congrArg Prod.fst he
  have e2 : xs = (encL l Rc.start (List.replicate n 1024)).2 := congrArg Prod.snd he
  rw [← e1] at ht
  obtain ⟨h1, h2⟩ := ht.none
  rw [e1] at h1
  exact ⟨h1, h2, e2⟩
/-- What may be asked is encoded as all of it is. -/
theorem encL_may (n : Nat) : ∀ (l : List Q) (e : Rc.E) (xs : List Int), xs.length = n → encL (may n l) e xs = encL l e xs
  | [], e, xs, _ => rfl
  | q :: l, e, xs, h => by
    by_cases hq : q.ok n
    · have e1 : may n (q :: l) = q :: may n l := by simp [may, hq]
      rw [e1, encL, encL, if_pos (by rw [h]; exact hq), if_pos (by rw [h]; exact hq)]
      exact encL_may n l _ _ (by rw [encX_len]; exact h)
    · have e1 : may n (q :: l) = may n l := by simp [may, hq]
      rw [e1, encL, if_neg (by rw [h]; exact hq)]
      exact encL_may n l _ _ h
end Go.Proofs.Ytejopgopcocapaa
