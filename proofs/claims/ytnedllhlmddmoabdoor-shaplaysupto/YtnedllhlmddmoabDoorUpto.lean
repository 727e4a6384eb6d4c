/- What 'of bulk at most 1048576' gives: bounds on the lengths of lists that came in; of no statement by themselves. -/
import Derived.Test.YtnedllhlmddmoabDoorStr
import Derived.Deep.DeepHandedRow
namespace Go.Proofs.YtnedllhlmddmoabDoor
open Go.ChangeShapes Go.WideShapes Go.ChangeAt Go.RowKit

theorem bulk_pos {H : Type} (x : DataW H) : 1 ≤ Rows.uptoBulk x := by
  cases x with
  | lit l => cases l <;> simp [Rows.uptoBulk]
  | nil => simp [Rows.uptoBulk]
  | ptr d => simp [Rows.uptoBulk]
  | slice e s => simp [Rows.uptoBulk]
  | agg ps => simp [Rows.uptoBulk]
  | iface t d => simp [Rows.uptoBulk]
  | map es => simp [Rows.uptoBulk]
  | held h => simp [Rows.uptoBulk]

theorem bulk_all_len {H : Type} (l : List (DataW H)) : l.length ≤ Rows.uptoBulkAll l := by
  induction l with
  | nil => simp [Rows.uptoBulkAll]
  | cons x r ih =>
    have h1 := bulk_pos x
    simp only [Rows.uptoBulkAll, List.length_cons]
    omega

/-- A list of bytes that came in, no longer than its bulk. -/
theorem open8u {H : Type} {enc : TypeId × Value → H} {W : World} {a : Option Addr} {len cap : Nat} {d : DataW H} {p : List MemPlace}
    (h : DataW.Trod enc Tryd.prog W 0 (fun _ => true) true 24 (.slice a len cap) d p) :
    ∃ ns, Row8 W a len cap (up ns) ∧ Byt ns ∧ len ≤ cap ∧ len + 1 ≤ Rows.uptoBulk d := by
  obtain ⟨fuel, hf⟩ := h
  rcases open_ints Tryd.underlying24 Tryd.underlying5 (by kernel_rfl) hf with ⟨hcs, hy⟩ | ⟨x, l, c, zs, hcs, _, hl, hm, hz, hx, hcell, hwz⟩
  · simp [Value.cells] at hcs
    obtain ⟨rfl, rfl, rfl⟩ := hcs
    simp only [Prod.mk.injEq] at hy
    exact ⟨[], ⟨rfl, .inl ⟨rfl, rfl, rfl⟩⟩, Byt.nil, Nat.le_refl _, by rw [hy.1]; simp [Rows.uptoBulk]⟩
  · simp [Value.cells] at hcs
    obtain ⟨rfl, rfl, rfl⟩ := hcs
    simp only [Prod.mk.injEq] at hx
    simp only [if_true] at hz
    have hbd : ∀ n ∈ zs.take len, 0 ≤ n ∧ n ≤ 255 := fun n hn => by
      have := bounds_u8 (hwz n (List.mem_of_mem_take hn))
      omega
    refine ⟨(zs.take len).map Int.toNat, ?_, byt_toNat _ hbd, hl, ?_⟩
    · rw [up_toNat _ hbd]
      refine ⟨by simp; omega, .inr ⟨x, rfl, fun j u hu => ?_⟩⟩
      rw [List.map_take, List.getElem?_take] at hu
      split at hu
      · have hj : j < zs.length := by omega
        rw [hcell j hj]
        simpa [List.getD, hj] using hu
      · cases hu
    · rw [hx.1]
      have h1 := bulk_all_len (lits (H := H) .u8 (zs.take len))
      simp only [lits, List.length_map, List.length_take] at h1
      simp only [Rows.uptoBulk, lits]
      omega

/-- The same, of one cell. -/
theorem open8c {H : Type} {enc : TypeId × Value → H} {W : World} {fuel : Nat} {c : Value} {y : DataW H × List MemPlace}
    (hf : DataW.trod enc Tryd.prog W 0 (fun _ => true) true fuel 24 [c] = some y) :
    ∃ a len cap ns, c = .slice a len cap ∧ Row8 W a len cap (up ns) ∧ Byt ns ∧ len ≤ cap ∧ len + 1 ≤ Rows.uptoBulk y.1 ∧ (cap = 0 ∨ ∃ elems spare, y.1 = .slice elems spare ∧ elems.length + spare.length = cap) := by
  rcases open_ints Tryd.underlying24 Tryd.underlying5 (by kernel_rfl) hf with ⟨hcs, hy⟩ | ⟨x, len, cap, zs, hcs, _, hl, hm, hz, hx, hcell, hwz⟩
  · simp only [List.cons.injEq, and_true] at hcs
    subst hcs
    exact ⟨none, 0, 0, [], rfl, ⟨rfl, .inl ⟨rfl, rfl, rfl⟩⟩, Byt.nil, Nat.le_refl _, by rw [hy]; simp [Rows.uptoBulk], .inl rfl⟩
  · simp only [List.cons.injEq, and_true] at hcs
    subst hcs
    simp only [if_true] at hz
    have hbd : ∀ n ∈ zs.take len, 0 ≤ n ∧ n ≤ 255 := fun n hn => by
      have := bounds_u8 (hwz n (List.mem_of_mem_take hn))
      omega
    refine ⟨some x, len, cap, (zs.take len).map Int.toNat, rfl, ?_, byt_toNat _ hbd, hl, ?_, .inr ⟨_, _, by rw [hx], ?_⟩⟩
    · rw [up_toNat _ hbd]
      refine ⟨by simp; omega, .inr ⟨x, rfl, fun j u hu => ?_⟩⟩
      rw [List.map_take, List.getElem?_take] at hu
      split at hu
      · have hj : j < zs.length := by omega
        rw [hcell j hj]
        simpa [List.getD, hj] using hu
      · cases hu
    · rw [hx]
      have h1 := bulk_all_len (lits (H := H) .u8 (zs.take len))
      simp only [lits, List.length_map, List.length_take] at h1
      simp only [Rows.uptoBulk, lits]
      omega
    · simp [lits]; omega

theorem cellsB : Tryd.prog.cellsOf 24 = 1 := by kernel_rfl

end Go.Proofs.YtnedllhlmddmoabDoor
