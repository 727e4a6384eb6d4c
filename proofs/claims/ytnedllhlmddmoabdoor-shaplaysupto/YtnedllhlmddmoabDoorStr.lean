/- Lists of bytes as they come in, cut, and as strings; of no statement by themselves. -/
import Derived.Test.YtnedllhlmddmoabDoorJoined
import Derived.Laws.BytesArg
import Derived.Deep.QuietTactic
import Derived.BigQuiet
namespace Go.Proofs.YtnedllhlmddmoabDoor
open Go.ChangeShapes Go.WideShapes Go.ChangeAt Go.RowKit

theorem bytes5 : Tryd.prog.bytesOf 5 = 1 := by kernel_rfl

theorem up_toNat : ∀ (l : List Int), (∀ x ∈ l, 0 ≤ x ∧ x ≤ 255) → up (l.map Int.toNat) = l
  | [], _ => rfl
  | x :: l, h => by
    have := h x (by simp)
    have ih := up_toNat l (fun y hy => h y (by simp [hy]))
    simp only [up, List.map_cons, List.cons.injEq] at ih ⊢
    exact ⟨by omega, ih⟩

theorem byt_toNat (l : List Int) (h : ∀ x ∈ l, 0 ≤ x ∧ x ≤ 255) : Byt (l.map Int.toNat) := fun y hy => by
  obtain ⟨x, hx, rfl⟩ := List.mem_map.1 hy
  have := h x hx
  omega

/-- A list of bytes that came in: its bytes; its capacity within the form's own reach. -/
theorem open8 {H : Type} {enc : TypeId × Value → H} {W : World} {a : Option Addr} {len cap : Nat} {d : DataW H} {p : List MemPlace}
    (h : DataW.Trod enc Tryd.prog W 0 (fun _ => true) true 24 (.slice a len cap) d p) (hsz : ∀ elems spare, d = .slice elems spare → (elems.length + spare.length) * Tryd.prog.bytesOf 5 ≤ reachBytes) :
    ∃ ns, Row8 W a len cap (up ns) ∧ Byt ns ∧ len ≤ cap ∧ cap ≤ 140737488351232 := by
  obtain ⟨fuel, hf⟩ := h
  rcases open_ints Tryd.underlying24 Tryd.underlying5 (by kernel_rfl) hf with ⟨hcs, _⟩ | ⟨x, l, c, zs, hcs, _, hl, hm, hz, hx, hcell, hwz⟩
  · simp [Value.cells] at hcs
    obtain ⟨rfl, rfl, rfl⟩ := hcs
    exact ⟨[], ⟨rfl, .inl ⟨rfl, rfl, rfl⟩⟩, Byt.nil, Nat.le_refl _, by omega⟩
  · simp [Value.cells] at hcs
    obtain ⟨rfl, rfl, rfl⟩ := hcs
    simp only [Prod.mk.injEq] at hx
    have hs := hsz _ _ hx.1
    simp only [if_true] at hz
    rw [bytes5] at hs
    simp only [lits, List.length_map, List.length_take, List.length_drop, reachBytes] at hs
    have hbd : ∀ n ∈ zs.take len, 0 ≤ n ∧ n ≤ 255 := fun n hn => by
      have := bounds_u8 (hwz n (List.mem_of_mem_take hn))
      omega
    refine ⟨(zs.take len).map Int.toNat, ?_, byt_toNat _ hbd, hl, by omega⟩
    rw [up_toNat _ hbd]
    refine ⟨by simp; omega, .inr ⟨x, rfl, fun j u hu => ?_⟩⟩
    rw [List.map_take, List.getElem?_take] at hu
    split at hu
    · have hj : j < zs.length := by omega
      rw [hcell j hj]
      simpa [List.getD, hj] using hu
    · cases hu

theorem row8_take {w : World} {ad : Option Addr} {m c : Nat} {xs : List Int} (h : Row8 w ad m c xs) (r : Nat) (hr : r ≤ m) : Row8 w ad r c (xs.take r) := by
  have hl := h.1
  refine ⟨by simp; omega, ?_⟩
  rcases h.2 with ⟨rfl, rfl, rfl⟩ | ⟨x, rfl, hx⟩
  · exact .inl ⟨rfl, by omega, rfl⟩
  · refine .inr ⟨x, rfl, fun j u hu => hx j u ?_⟩
    rw [List.map_take, List.getElem?_take] at hu
    split at hu
    · exact hu
    · cases hu

/-- 'string(b)' of a list of bytes, in every later draw. -/
theorem conv8 {w : World} {ad : Option Addr} {m c : Nat} {xs : List Int} (h : Row8 w ad m c xs) (k : Nat) :
    (convert 24 9 (.slice ad m c)).run Tryd.prog (w.drewN k) = .ok (.string (strOfNums xs)) (w.drewN k) := by
  rcases h.2 with ⟨rfl, rfl, rfl⟩ | ⟨x, rfl, hx⟩
  · have e : xs = [] := List.eq_nil_of_length_eq_zero h.1
    subst e
    exact run_convert_bytes_nil (P := Tryd.prog) (w.drewN k) 24 5 Tryd.underlying24 Tryd.underlying5 0 0 9 Tryd.underlying9
  · have hl : (loadCells x m).run Tryd.prog (w.drewN k) = .ok (xs.map (Value.int .u8)).toArray (w.drewN k) := by
      have := run_loadCells_list (P := Tryd.prog) (w.drewN k) x (xs.map (Value.int .u8)) hx
      simpa [h.1] using this
    rw [run_convert_bytes_string (w.drewN k) 24 9 5 _ m c Tryd.underlying24 Tryd.underlying5 Tryd.underlying9, run_bytesToString (w.drewN k) _ m c xs hl, foldl_push_bytes]
    simp [strOfNums, ByteArray.empty, ByteArray.emptyWithCapacity]
    rfl

theorem conv8_here {w : World} {ad : Option Addr} {m c : Nat} {xs : List Int} (h : Row8 w ad m c xs) :
    (convert 24 9 (.slice ad m c)).run Tryd.prog w = .ok (.string (strOfNums xs)) w := conv8 h 0

theorem below_of {w w' : World} (h : Chg (fun _ => False) w w') : Below w.heap.size w w' := h.below (Nat.le_refl _) (fun _ f => f.elim)
end Go.Proofs.YtnedllhlmddmoabDoor
