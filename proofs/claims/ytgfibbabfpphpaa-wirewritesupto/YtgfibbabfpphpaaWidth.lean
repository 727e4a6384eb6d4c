/- The contract of the statements' own function width, and small laws on new writers, of no statement by themselves. -/
import Derived.Test.YtgfibbabfpphpaaNumber
namespace Go.Proofs.Ytgfibbabfpphpaa
open Go.RowKit

theorem newWr_at (B : Nat) (w : World) (hB : B ≤ w.heap.size) : Wr B (w.alloc (.cells #[.int .i64 0, .slice none 0 0] 75)) w.heap.size (.slice none 0 0) [] :=
  ⟨hB, by simpa using heap_alloc_new w (.cells #[.int .i64 0, .slice none 0 0] 75), World.ownsRow_nil _ _ _ _⟩

/-- The width that the statement makes of a number: 1 to 8. -/
def wid (n : Int) : Nat := (n.tmod 8).natAbs + 1
theorem wid_bd (n : Int) : 1 ≤ wid n ∧ wid n ≤ 8 := by
  have h1 : -8 < n.tmod 8 := Int.lt_tmod_of_pos n (by omega)
  have h2 : n.tmod 8 < 8 := Int.tmod_lt_of_pos n (by omega)
  unfold wid
  omega

theorem ret_i64 {a b : Int} (h : a = b) : Ending.returned (.int .i64 a) = .returned (.int .i64 b) := by rw [h]

set_option maxHeartbeats 400000 in
theorem width_any (n : Int) (w : World) (_h0 : -9223372036854775808 ≤ n) (_h1 : n ≤ 9223372036854775807) : Calls Try.prog 19 #[.int .i64 n] w fun e w' => e = .returned (.int .i64 (wid n)) ∧ w = w' := by
  have hb : -8 < n.tmod 8 ∧ n.tmod 8 < 8 := ⟨Int.lt_tmod_of_pos n (by omega), Int.tmod_lt_of_pos n (by omega)⟩
  have HW : Hid (wid n = (n.tmod 8).natAbs + 1) := rfl
  generalize wid n = u at *
  go_enter Try.func19, Try.ntmps19
  go_wp2
  all_goals
    go_ret
    exact ⟨ret_i64 (by have := HW.out; omega), rfl⟩

theorem byteAt_bd (v : Int) (i : Nat) : 0 ≤ byteAt v i ∧ byteAt v i ≤ 255 := by unfold byteAt; omega
theorem lowBytes8 (v : Int) (n : Nat) : Bytes8 (lowBytes v n) := fun x hx => by
  obtain ⟨i, _, rfl⟩ := List.mem_map.1 hx
  exact byteAt_bd v i
theorem highBytes8 (v : Int) (n : Nat) : Bytes8 (highBytes v n) := fun x hx => by
  obtain ⟨i, _, rfl⟩ := List.mem_map.1 hx
  exact byteAt_bd v _
theorem highBytes_length (v : Int) (n : Nat) : (highBytes v n).length = n := highTo_length v n n

/-- A list of bytes that lies whole in its block: one of them. -/
theorem blk_cell {w : World} {g : Nat} {xs : List Int} (h : w.heap[g]? = some (.cells (cells8 xs).toArray 5 (0, 0))) (k : Nat) (hk : k < xs.length) : w.cell? ⟨g, k, none⟩ = some (.int .u8 (xs.getD k 0)) := by
  rw [cell_of_row w g k _ 5 (0, 0) h]
  simp [cells8, List.getD, hk]

/-- What lies in a block stays there while nothing of it is turned. -/
theorem blk_keep {S : Nat → Prop} {w w' : World} {g : Nat} {o : Obj} (h : w.heap[g]? = some o) (hc : Chg S w w') (hS : ¬ S g) : w'.heap[g]? = some o := (hc.block g (lt_of_blk h) hS).trans h

/-- The foot of a writer that has no bytes yet is its own block. -/
theorem foot_nil {a k : Nat} (h : Foot a (.slice none 0 0) k) : k = a := by
  rcases h with h | h
  · exact h
  · simp [Value.ownBlock] at h
theorem moved_nil {w : World} {v : Value} (h : Moved w (.slice none 0 0) v) {g : Nat} (hg : v.ownBlock = some g) : w.heap.size ≤ g := by
  rcases h g hg with e | e
  · simp [Value.ownBlock] at e
  · exact e

end Go.Proofs.Ytgfibbabfpphpaa
