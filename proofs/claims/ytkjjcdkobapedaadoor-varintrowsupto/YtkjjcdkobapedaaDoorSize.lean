/- The table of bounds in memory ('Tab'), and the contract of Size: how many bytes a number has; of no statement by themselves. -/
import Derived.Test.YtkjjcdkobapedaaDoorBase
namespace Go.Proofs.YtkjjcdkobapedaaDoor
open Go.RowKit

/-- The bounds: 128, its square, and so on. -/
def bd : Nat → Int
  | 0 => 128
  | 1 => 16384
  | 2 => 2097152
  | 3 => 268435456
  | 4 => 34359738368
  | 5 => 4398046511104
  | 6 => 562949953421312
  | _ => 72057594037927936

/-- The table's block, as the program lays it. -/
def Tab (w : World) : Prop := ∀ k, k < 8 → w.cell? ⟨0, k, none⟩ = some (.int .u64 (bd k))

theorem Tab.keep {w w' : World} {S : Nat → Prop} (h : Tab w) (hc : Chg S w w') (hS : ¬ S 0) : Tab w' := fun k hk => by
  have h0 := h k hk
  have hlt := World.block_lt_of_cell? w _ h0
  rw [World.cell?_of_block (w := w) (hc.block _ hlt hS)]
  exact h0

theorem Tab.pos {w : World} (h : Tab w) : 0 < w.heap.size := World.block_lt_of_cell? w _ (h 0 (by omega))

/-- Memory above the table alone has turned. -/
theorem Tab.up {w w' : World} {B : Nat} (h : Tab w) (hc : Chg (fun k => B ≤ k) w w') (hB : 0 < B) : Tab w' := h.keep hc (by omega)

theorem Tab.new {w w' : World} (h : Tab w) (hc : Chg (fun _ => False) w w') : Tab w' := h.keep hc (fun f => f)

/-- How many bytes a number of at most 63 bits has. -/
def sz (v : Int) : Nat :=
  if v < 128 then 1 else if v < 16384 then 2 else if v < 2097152 then 3 else if v < 268435456 then 4 else if v < 34359738368 then 5
  else if v < 4398046511104 then 6 else if v < 562949953421312 then 7 else if v < 72057594037927936 then 8 else 9

theorem sz_is {v : Int} {n : Nat} (h : sz v = n) : 1 ≤ n ∧ n ≤ 9 ∧ (n < 9 → v < bd (n - 1)) ∧ (1 < n → bd (n - 2) ≤ v) := by
  subst h
  unfold sz
  repeat' split
  all_goals (refine ⟨by omega, by omega, fun _ => ?_, fun _ => ?_⟩ <;> simp only [bd, Nat.reduceSub] <;> omega)

theorem sz_of {v : Int} {k : Nat} (hk : k < 8) (h : v < bd k) (hb : ∀ j, j < k → bd j ≤ v) : ((k : Int) + 1) = (sz v : Int) := by
  have e0 := hb 0
  have e1 := hb 1
  have e2 := hb 2
  have e3 := hb 3
  have e4 := hb 4
  have e5 := hb 5
  have e6 := hb 6
  clear hb
  unfold sz
  rcases k with _ | _ | _ | _ | _ | _ | _ | _ | k
  all_goals first | omega | (simp only [bd, Nat.reduceAdd] at *; repeat' split) <;> omega

theorem sz_nine {v : Int} (hb : ∀ j, j < 8 → bd j ≤ v) : (9 : Int) = (sz v : Int) := by
  have e0 := hb 0 (by omega)
  have e1 := hb 1 (by omega)
  have e2 := hb 2 (by omega)
  have e3 := hb 3 (by omega)
  have e4 := hb 4 (by omega)
  have e5 := hb 5 (by omega)
  have e6 := hb 6 (by omega)
  have e7 := hb 7 (by omega)
  clear hb
  unfold sz
  simp only [bd] at *
  repeat' split
  all_goals omega

theorem ret_int {k : IntKind} {a b : Int} (h : a = b) : Ending.returned (.int k a) = .returned (.int k b) := by rw [h]

theorem idx (k : Nat) (hk : k < 8) : ∀ w : World, (Instr.index 46 (.agg #[.int .u64 128, .int .u64 16384, .int .u64 2097152, .int .u64 268435456, .int .u64 34359738368, .int .u64 4398046511104, .int .u64 562949953421312, .int .u64 72057594037927936]) (.int .i64 k)).run Tryd.prog w = .ok (.int .u64 (bd k)) w := by
  rcases k with _ | _ | _ | _ | _ | _ | _ | _ | k
  all_goals first | omega | (intro _; kernel_rfl)

set_option maxHeartbeats 1000000 in
theorem size_any (v : Int) (w : World) (hT : Tab w) (h0 : 0 ≤ v) (h1 : v ≤ 9223372036854775807) :
    Calls Tryd.prog 9 #[.int .u64 v] w fun e w' => e = .returned (.int .i64 (sz v)) ∧ w = w' := by
  have t0 := hT 0 (by omega)
  have t1 := hT 1 (by omega)
  have t2 := hT 2 (by omega)
  have t3 := hT 3 (by omega)
  have t4 := hT 4 (by omega)
  have t5 := hT 5 (by omega)
  have t6 := hT 6 (by omega)
  have t7 := hT 7 (by omega)
  simp only [bd] at t0 t1 t2 t3 t4 t5 t6 t7
  clear hT
  go_enter Tryd.func9, Tryd.ntmps9
  go_wp2
  go_loop [8] (fun i => ∃ k : Nat, k ≤ 8 ∧ i = .int .i64 k ∧ Hid (∀ j, j < k → bd j ≤ v)) (fun i => 8 - (intOf i).toNat)
  case atStart => exact ⟨0, by omega, rfl, fun j hj => by omega⟩
  case round =>
    obtain ⟨k, hk, rfl, HB⟩ := hrel
    clear t0 t1 t2 t3 t4 t5 t6 t7
    by_cases hlt : k < 8
    · have hx := idx k hlt
      by_cases hv : v < bd k
      · have HV : Hid (v < bd k) := hv
        go_wp2
        go_ret
        exact ⟨ret_int (sz_of (by omega) HV.out HB.out), rfl⟩
      · have HV : Hid (¬ v < bd k) := hv
        go_wp2
        go_round
        case rel => exact ⟨k + 1, by omega, by go_num, fun j hj => by
            rcases Nat.lt_succ_iff_lt_or_eq.1 hj with e | e
            · exact HB.out j e
            · subst e; exact Int.not_lt.1 HV.out⟩
        case measure => simp [intOf]; omega
    · obtain rfl : k = 8 := by omega
      go_wp2
      go_ret
      exact ⟨ret_int (sz_nine HB.out), rfl⟩

theorem size_no (v : Int) (w : World) (h1 : 9223372036854775807 < v) :
    Calls Tryd.prog 9 #[.int .u64 v] w fun e w' => e = .returned (.int .i64 0) ∧ w = w' := by
  go_enter Tryd.func9, Tryd.ntmps9
  go_wp2
  go_ret
  exact ⟨rfl, rfl⟩
end Go.Proofs.YtkjjcdkobapedaaDoor
