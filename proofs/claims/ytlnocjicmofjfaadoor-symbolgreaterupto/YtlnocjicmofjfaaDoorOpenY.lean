/- Openings of what is handed in: bytes and symbols; what the bulk bounds; of no statement by itself. -/
import Derived.Test.YtlnocjicmofjfaaDoorOpenS
import Derived.Test.YtlnocjicmofjfaaDoorRows
import Derived.Test.YtlnocjicmofjfaaDoorBoundB
import Derived.Test.YtlnocjicmofjfaaDoorBoundD
import Derived.ProofKit
import Derived.OpenShut
import Derived.ShutString
import Derived.ChangeOld
import Derived.SizedLaws
import Derived.Below
import Derived.Deep.Slices
namespace Go.Proofs.YtlnocjicmofjfaaDoor
open Go.ChangeShapes Go.WideShapes Go.ChangeAt Go.RowKit
set_option linter.unusedVariables false
set_option linter.unusedSimpArgs false

theorem open_bytes8 {H : Type} {enc : TypeId × Value → H} {W : World} {a : Option Addr} {len cap : Nat} {d : DataW H} {p : List MemPlace}
    (h : DataW.Trod enc Tryd.prog W 0 (fun _ => true) true 24 (.slice a len cap) d p) : ∃ bs : List Nat, Row8 W a len cap (nums bs) ∧ Rc.Dig bs ∧ len ≤ cap ∧ (a = none → len = 0 ∧ cap = 0) ∧ (∀ N, (∀ elems spare, d = .slice elems spare → elems.length + spare.length ≤ N) → len ≤ N ∧ cap ≤ N) := by
  obtain ⟨fuel, hf⟩ := h
  rcases open_ints Tryd.underlying24 Tryd.underlying5 (by kernel_rfl) hf with ⟨hcs, _⟩ | ⟨x, l, c, zs, hcs, _, hl, hm, hz, hx, hcell, hwz⟩
  · simp [Value.cells] at hcs
    obtain ⟨rfl, rfl, rfl⟩ := hcs
    exact ⟨[], ⟨rfl, .inl ⟨rfl, rfl, rfl⟩⟩, fun x hx => (List.not_mem_nil hx).elim, Nat.le_refl _, fun _ => ⟨rfl, rfl⟩, fun _ _ => ⟨Nat.zero_le _, Nat.zero_le _⟩⟩
  · simp [Value.cells] at hcs
    obtain ⟨rfl, rfl, rfl⟩ := hcs
    simp only [Prod.mk.injEq] at hx
    simp only [if_true] at hz
    have hN : ∀ N, (∀ elems spare, d = .slice elems spare → elems.length + spare.length ≤ N) → len ≤ N ∧ cap ≤ N := fun N hN => by
      have hs := hN _ _ hx.1
      simp only [lits, List.length_map, List.length_take, List.length_drop] at hs
      omega
    have hb : ∀ z ∈ zs, 0 ≤ z ∧ z < 256 := fun z hz => by
      have := bounds_u8 (hwz z hz)
      omega
    refine ⟨(zs.take len).map Int.toNat, ⟨?_, .inr ⟨x, rfl, fun j u hu => ?_⟩⟩, ?_, hl, (fun f => by cases f), hN⟩
    · rw [nums_len, List.length_map, List.length_take]; omega
    · simp only [nums, List.getElem?_map, Option.map_eq_some_iff] at hu
      obtain ⟨n1, ⟨n2, ⟨z, hz1, rfl⟩, rfl⟩, rfl⟩ := hu
      rw [List.getElem?_take] at hz1
      split at hz1
      · rename_i hj
        have hjz : j < zs.length := (List.getElem?_eq_some_iff.1 hz1).1
        have hze : zs[j] = z := (List.getElem?_eq_some_iff.1 hz1).2
        have g := hcell j hjz
        have := hb z (by rw [← hze]; exact List.getElem_mem hjz)
        rw [show ((z.toNat : Nat) : Int) = z by omega]
        rw [g, ← hze]
        simp [List.getD, hjz]
      · cases hz1
    · intro y hy
      simp only [List.mem_map] at hy
      obtain ⟨z, hz1, rfl⟩ := hy
      have := hb z (List.mem_of_mem_take hz1)
      omega
theorem bulk_pos {H : Type} (x : DataW H) : 1 ≤ Rows.uptoBulk x := by
  cases x with
  | lit l => cases l <;> simp [Rows.uptoBulk]
  | nil => simp [Rows.uptoBulk]
  | ptr d => simp [Rows.uptoBulk]
  | slice e s => simp [Rows.uptoBulk]
  | agg ps => simp [Rows.uptoBulk]
  | iface t d => simp [Rows.uptoBulk]
  | map es => simp [Rows.uptoBulk]
  | held h => simp [Rows.uptoBulk]

theorem bulk_all_len {H : Type} (l : List (DataW H)) : l.length ≤ Rows.uptoBulkAll l := by
  induction l with
  | nil => simp [Rows.uptoBulkAll]
  | cons x r ih =>
    have h1 := bulk_pos x
    simp only [Rows.uptoBulkAll, List.length_cons]
    omega

theorem open_symsN {H : Type} {enc : TypeId × Value → H} {W : World} {a : Option Addr} {len cap : Nat} {d : DataW H} {p : List MemPlace}
    (h : DataW.Trod enc Tryd.prog W 0 (fun _ => true) true 22 (.slice a len cap) d p) : a = none → cap = 0 ∧ len = 0 := by
  obtain ⟨fuel, hf⟩ := h
  rcases Deep.open_slice Tryd.underlying22 hf with ⟨hcs, _⟩ | ⟨x, len', cap', m, n, D, Pl, hcs, _, hl, hm, hmm, hx, hel⟩
  · simp [Value.cells] at hcs
    obtain ⟨rfl, rfl, rfl⟩ := hcs
    exact fun _ => ⟨rfl, rfl⟩
  · simp [Value.cells] at hcs
    obtain ⟨rfl, rfl, rfl⟩ := hcs
    exact fun e => by cases e
end Go.Proofs.YtlnocjicmofjfaaDoor
