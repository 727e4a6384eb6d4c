/- RcdecApart's mathematics: a decoder along its questions, one at a time; of no statement by itself. -/
import Derived.Test.YtejopgopcocapaaDe
namespace Go.Proofs.Ytejopgopcocapaa
open Go.RowKit
set_option linter.unusedVariables false

/-- Behind k answers of the row of all. -/
structure Ap (bs : List Nat) (l : List Q) (d0 : Rc.D) (xs0 : List Int) (k : Nat) (vals : List Nat) (d : Rc.D) (xs : List Int) : Prop where
  ok : OkD bs d
  inn : In31 xs
  len : vals.length = k
  eq : (decL bs l d0 xs0).1 = vals ++ (decL bs (l.drop k) d xs).1
theorem Ap.start {bs : List Nat} {l : List Q} {d0 : Rc.D} {xs0 : List Int} (hO : OkD bs d0) (hI : In31 xs0) : Ap bs l d0 xs0 0 [] d0 xs0 := ⟨hO, hI, rfl, by simp⟩
theorem Ap.step {bs : List Nat} {l : List Q} {d0 : Rc.D} {xs0 : List Int} {k : Nat} {vals : List Nat} {d : Rc.D} {xs : List Int} (hdig : Rc.Dig bs) (h : Ap bs l d0 xs0 k vals d xs) (hk : k < (decL bs l d0 xs0).1.length) : ∃ q v d' xs', l[k]? = some q ∧ decA bs q d xs = .ok (v, d', xs') ∧ decL bs [q] d xs = ([v], d', xs', true) ∧ Ap bs l d0 xs0 (k + 1) (vals ++ [v]) d' xs' := by
  have h1 := h.eq
  have h2 : k < l.length := by
    by_cases hk2 : k < l.length
    · exact hk2
    · rw [List.drop_eq_nil_of_le (by omega)] at h1
      rw [h1] at hk
      simp [decL, h.len] at hk
  have hq : l[k]? = some l[k] := List.getElem?_eq_getElem h2
  cases e : decA bs l[k] d xs with
  | error x =>
    rw [decL_err hq e] at h1
    rw [h1] at hk
    simp [h.len] at hk
  | ok r =>
    obtain ⟨v, d', xs'⟩ := r
    obtain ⟨_, _, h3, h4, _⟩ := decA_ok hdig h.ok h.inn e
    refine ⟨l[k], v, d', xs', hq, e, ?_, h3, h4, by rw [List.length_append, h.len]; rfl, ?_⟩
    · rw [decL, e]; rfl
    · rw [h1, decL_ok hq e]
      simp
theorem Ap.at {bs : List Nat} {l : List Q} {d0 : Rc.D} {xs0 : List Int} {k : Nat} {vals : List Nat} {d : Rc.D} {xs : List Int} (h : Ap bs l d0 xs0 k vals d xs) {j : Nat} (hj : j < k) : ∃ x, vals[j]? = some x ∧ (decL bs l d0 xs0).1[j]? = some x := by
  have hl := h.len
  refine ⟨vals[j], List.getElem?_eq_getElem (by omega), ?_⟩
  rw [h.eq, List.getElem?_append_left (by omega)]
  exact List.getElem?_eq_getElem (by omega)
theorem Ap.le {bs : List Nat} {l : List Q} {d0 : Rc.D} {xs0 : List Int} {k : Nat} {vals : List Nat} {d : Rc.D} {xs : List Int} (h : Ap bs l d0 xs0 k vals d xs) : k ≤ (decL bs l d0 xs0).1.length := by
  rw [h.eq, List.length_append, h.len]; omega
theorem asks_one {w : World} {b off : Nat} {l : List Q} {k : Nat} {q : Q} (h : Asks w (some ⟨b, off, none⟩) l) (hq : l[k]? = some q) : Asks w (some ⟨b, off + k * 4, none⟩) [q] := fun j p hp => by
  obtain ⟨b', off', e, h0, h1, h2, h3, hX⟩ := h k q hq
  cases e
  cases j with
  | zero =>
    simp at hp
    subst hp
    exact ⟨b, off + k * 4, rfl, by simpa using h0, by simpa using h1, by simpa using h2, by simpa using h3, hX⟩
  | succ j => simp at hp
end Go.Proofs.Ytejopgopcocapaa
