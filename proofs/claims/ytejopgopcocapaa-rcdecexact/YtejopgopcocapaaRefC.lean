/- The contract of the document's Bit; of no statement by itself. -/
import Derived.Test.YtejopgopcocapaaRefB
namespace Go.Proofs.Ytejopgopcocapaa
open Go.RowKit
set_option linter.unusedVariables false

/-- All are probabilities that began at Half. -/
def In31 (xs : List Int) : Prop := ∀ p ∈ xs, 31 ≤ p ∧ p ≤ 2017
theorem In31.inn {xs : List Int} (h : In31 xs) : In xs := fun p hp => by have := h p hp; omega
theorem In31.set {xs : List Int} (h : In31 xs) (j : Nat) (p : Int) (hp : 31 ≤ p ∧ p ≤ 2017) : In31 (xs.set j p) := fun q hq => by
  rcases List.mem_or_eq_of_mem_set hq with e | e
  · exact h q e
  · subst e; exact hp
theorem In31.at {xs : List Int} (h : In31 xs) (j : Nat) (hj : j < xs.length) : 31 ≤ xs[j] ∧ xs[j] ≤ 2017 := h _ (List.getElem_mem hj)
theorem In31.half (n : Nat) : In31 (List.replicate n 1024) := fun q hq => by
  obtain ⟨_, rfl⟩ := List.mem_replicate.1 hq
  omega

/-- The encoder behind a bit by a probability. -/
def coded (e : Rc.E) (p b : Int) : Rc.E := Rc.cut e (e.R / 2048 * p.toNat) (decide (b ≠ 0))
theorem bo_nat {R : Nat} {p : Int} (h1 : 31 ≤ p) (h2 : p ≤ 2017) : Prob.bo (R : Int) p = ((R / 2048 * p.toNat : Nat) : Int) := by
  unfold Prob.bo
  rw [Prob.cl_id (by omega) (by omega)]
  have e : ((p.toNat : Nat) : Int) = p := by omega
  simp only [Int.natCast_mul, Int.natCast_ediv, e]
  rfl

end Go.Proofs.Ytejopgopcocapaa
