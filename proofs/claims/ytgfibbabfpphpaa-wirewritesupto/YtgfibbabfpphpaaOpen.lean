/- How a list of bytes that came in is opened, and the first place where a test fails; of no statement by themselves. -/
import Derived.Test.YtgfibbabfpphpaaStr
import Derived.ProofKit
import Derived.OpenShut
import Derived.SizedLaws
namespace Go.Proofs.Ytgfibbabfpphpaa
open Go.ChangeShapes Go.WideShapes Go.ChangeAt Go.RowKit

theorem first_not (n : Nat) (P : Nat → Prop) (h : ¬ ∀ k, k < n → P k) : ∃ j, j < n ∧ ¬ P j ∧ ∀ k, k < j → P k := by
  induction n with
  | zero => exact (h (fun k hk => by omega)).elim
  | succ n ih =>
    by_cases hn : ∀ k, k < n → P k
    · refine ⟨n, by omega, fun hp => h (fun k hk => ?_), hn⟩
      by_cases e : k = n
      · subst e; exact hp
      · exact hn k (by omega)
    · obtain ⟨j, hj, h1, h2⟩ := ih hn
      exact ⟨j, by omega, h1, h2⟩

theorem bytes5 : Try.prog.bytesOf 5 = 1 := by kernel_rfl

/-- A list of bytes that came in: its bytes, each within its kind; its capacity within the form's own reach. -/
theorem open8 {H : Type} {enc : TypeId × Value → H} {W : World} {a : Option Addr} {len cap : Nat} {d : DataW H} {p : List MemPlace}
    (h : DataW.Trod enc Try.prog W 0 (fun _ => true) true 22 (.slice a len cap) d p) (hsz : ∀ elems spare, d = .slice elems spare → (elems.length + spare.length) * Try.prog.bytesOf 5 ≤ reachBytes) :
    ∃ xs, Row8 W a len cap xs ∧ Bytes8 xs ∧ len ≤ cap ∧ cap ≤ 140737488351232 := by
  obtain ⟨fuel, hf⟩ := h
  rcases open_ints Try.underlying22 Try.underlying5 (by kernel_rfl) hf with ⟨hcs, _⟩ | ⟨x, l, c, zs, hcs, _, hl, hm, hz, hx, hcell, hwz⟩
  · simp [Value.cells] at hcs
    obtain ⟨rfl, rfl, rfl⟩ := hcs
    exact ⟨[], ⟨rfl, .inl ⟨rfl, rfl, rfl⟩⟩, Bytes8.nil, Nat.le_refl _, by omega⟩
  · simp [Value.cells] at hcs
    obtain ⟨rfl, rfl, rfl⟩ := hcs
    simp only [Prod.mk.injEq] at hx
    have hs := hsz _ _ hx.1
    simp only [if_true] at hz
    rw [bytes5] at hs
    simp only [lits, List.length_map, List.length_take, List.length_drop, reachBytes] at hs
    refine ⟨zs.take len, ⟨by simp; omega, .inr ⟨x, rfl, fun j u hu => ?_⟩⟩, fun n hn => ?_, hl, by omega⟩
    · rw [List.map_take, List.getElem?_take] at hu
      split at hu
      · have hj : j < zs.length := by omega
        rw [hcell j hj]
        simpa [List.getD, hj] using hu
      · cases hu
    · have := bounds_u8 (hwz n (List.mem_of_mem_take hn))
      omega

end Go.Proofs.Ytgfibbabfpphpaa
