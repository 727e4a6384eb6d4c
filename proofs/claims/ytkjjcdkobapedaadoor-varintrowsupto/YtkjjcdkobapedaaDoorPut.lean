/- The bytes of a number ('vb'), and the contract of Put; of no statement by themselves. -/
import Derived.Test.YtkjjcdkobapedaaDoorSize
namespace Go.Proofs.YtkjjcdkobapedaaDoor
open Go.RowKit

theorem info5 : (Tryd.prog.info? 5).map (fun i => (i.zero, i.size, i.bytes)) = some (some (.int .u8 0), 1, 1) := by kernel_rfl

/-- Bytes as cells. -/
def cells8 (xs : List Int) : List Value := xs.map (Value.int .u8)

/-- The group number i of seven bits. -/
def dg (v : Int) (i : Nat) : Int := v / 128 ^ i % 128

theorem dg_bd (v : Int) (i : Nat) : 0 ≤ dg v i ∧ dg v i < 128 := by unfold dg; omega

/-- The bytes of a number of n groups. -/
def putl (n : Nat) (v : Int) : List Int := (List.range n).map fun i => if i + 1 < n then dg v i + 128 else dg v i

/-- The bytes behind k rounds: 128 more in each. -/
def stage (n : Nat) (v : Int) (k : Nat) : List Int := (List.range n).map fun i => if i < k then dg v i + 128 else 0

theorem set_range (n : Nat) (f : Nat → Int) (k : Nat) (u : Int) : (cells8 ((List.range n).map f)).set k (.int .u8 u) = cells8 ((List.range n).map fun i => if i = k then u else f i) := by
  apply List.ext_getElem?
  intro j
  simp only [cells8, List.getElem?_set, List.getElem?_map, List.length_map, List.length_range]
  by_cases hj : j < n
  · by_cases e : k = j
    · subst e; simp [hj]
    · simp [hj, e, Ne.symm e]
  · by_cases e : k = j
    · subst e; simp [hj]
    · simp [hj, e]

theorem blk_setk {w : World} {a : Nat} {l : List Value} {t : TypeId} (h : w.heap[a]? = some (.cells l.toArray t (0, 0))) (k : Nat) (u : Value) : (w.setCell ⟨a, k, none⟩ u).heap[a]? = some (.cells (l.set k u).toArray t (0, 0)) := by
  have hlt := lt_of_blk h
  have h' : w.heap[a] = .cells l.toArray t (0, 0) := by simpa [Array.getElem?_eq_getElem hlt] using h
  show (w.heap.modify a _)[a]? = _
  rw [Array.getElem?_eq_getElem (by simpa using hlt), Array.getElem_modify_self, h']
  simp

theorem stage_step (n k : Nat) (v : Int) : (cells8 (stage n v k)).set k (.int .u8 (dg v k + 128)) = cells8 (stage n v (k + 1)) := by
  rw [stage, set_range]
  congr 1
  apply List.map_congr_left
  intro i _
  by_cases e : i = k
  · subst e; simp
  · simp only [e, if_false]
    by_cases hl : i < k
    · simp [hl, show i < k + 1 by omega]
    · simp [hl, show ¬ i < k + 1 by omega]

theorem stage_last (m : Nat) (v : Int) : (cells8 (stage (m + 1) v (m + 1))).set m (.int .u8 (dg v m)) = cells8 (putl (m + 1) v) := by
  rw [stage, set_range, putl]
  congr 1
  apply List.map_congr_left
  intro i hi
  have hi := List.mem_range.1 hi
  by_cases e : i = m
  · subst e; simp
  · simp [e, show i < m + 1 by omega, show i < m by omega]

theorem stage_zero (n : Nat) (v : Int) : cells8 (stage n v 0) = List.replicate n (Value.int .u8 0) := by
  simp [cells8, stage, List.map_const']

theorem div_step (v : Int) (k : Nat) : v / 128 ^ k / 128 = v / 128 ^ (k + 1) := by
  rw [Int.pow_succ, Int.ediv_ediv_of_nonneg (Int.pow_nonneg (by omega))]

set_option maxHeartbeats 1000000 in
theorem put_core (v : Int) (m : Nat) (w : World) (hT : Tab w) (h0 : 0 ≤ v) (h1 : v ≤ 9223372036854775807) (HN : Hid (sz v = m + 1)) (n2 : m + 1 ≤ 9) :
    Calls Tryd.prog 10 #[.int .u64 v] w fun e w' => e = .returned (.tuple #[.slice (some ⟨w.heap.size, 0, none⟩) (m + 1) (m + 1), .int .i64 0]) ∧ w'.heap[w.heap.size]? = some (.cells (cells8 (putl (m + 1) v)).toArray 5 (0, 0)) ∧ Chg (fun _ => False) w w' := by
  obtain ⟨i0, hi, hz0, hz1, hz2⟩ := info_parts info5
  go_enter Tryd.func10, Tryd.ntmps10
  go_wp2_with fail
  refine (size_any _ _ hT h0 h1).mono ?_
  rintro e w1 ⟨rfl, rfl⟩
  clear hT
  rw [HN.out]
  go_wp2_with (at_make; refine wpList_make_full _ rfl (.tmp 11) (.tmp 11) 24 rfl w.heap.size 5 i0 (.int .u8 0) 1 Tryd.underlying24 hi hz0 hz1 .i64 .i64 _ _ (m + 1) rfl rfl (by go_num) (by go_num) (by rw [hz2]; omega) (by unfold maxLen; omega) (Nat.le_refl _) ?_)
  intro w1 hown hg
  have hc : Chg (fun _ => False) w w1 := (Chg.refl _ w).grown hg (fun k e => by cases e)
  have hrow : w1.heap[w.heap.size]? = some (.cells (cells8 (stage (m + 1) v 0)).toArray 5 (0, 0)) := by
    rw [stage_zero]
    rcases hown.2 with ⟨e, _⟩ | ⟨g, cap, cur, e, _, hh, _, _, hs, ht⟩
    · cases e
    · simp only [Value.slice.injEq, Option.some.injEq, Addr.mk.injEq] at e
      obtain ⟨⟨rfl, _⟩, _, rfl⟩ := e
      rw [toList_madeCells_one, List.take_of_length_le (by simp; omega)] at ht
      rw [hh]
      rw [← ht]
  have hlt : w.heap.size < w1.heap.size := lt_of_blk hrow
  have HR : Hid (w1.heap[w.heap.size]? = some (.cells (cells8 (stage (m + 1) v 0)).toArray 5 (0, 0))) := hrow
  clear hown hg hrow
  go_wp2_with fail
  go_loopw [0, 15] (fun x i wr => ∃ k : Nat, k ≤ m + 1 ∧ i = .int .i64 k ∧ x = .int .u64 (v / 128 ^ k) ∧ Hid (wr.heap[w.heap.size]? = some (.cells (cells8 (stage (m + 1) v k)).toArray 5 (0, 0))) ∧ Chg (fun _ => False) w wr) (fun _ i _ => m + 1 - (intOf i).toNat)
  case atStart => exact ⟨0, Nat.zero_le _, rfl, by simp, HR, hc⟩
  case round =>
    obtain ⟨k, hk, rfl, rfl, HR, hc⟩ := hrel
    by_cases hlt : k < m + 1
    · have hcell : wr.cell? ⟨w.heap.size, k, none⟩ = some (.int .u8 0) := by
        rw [cell_of_row wr w.heap.size k _ 5 (0, 0) HR.out]
        simp [cells8, stage, hlt]
      have hfr : wr.frozen? ⟨w.heap.size, k, none⟩ = false := by simp [World.frozen?, HR.out]
      have hp : 0 ≤ v / 128 ^ k := Int.ediv_nonneg h0 (Int.pow_nonneg (by omega))
      have hq : v / 128 ^ k ≤ 9223372036854775807 := Int.le_trans (Int.ediv_le_self _ h0) h1
      have HS : Hid ((wr.setCell ⟨w.heap.size, k, none⟩ (.int .u8 (dg v k + 128))).heap[w.heap.size]? = some (.cells (cells8 (stage (m + 1) v (k + 1))).toArray 5 (0, 0))) := by
        show _ = _
        rw [blk_setk HR.out, stage_step]
      have HD : Hid (v / 128 ^ k / 128 = v / 128 ^ (k + 1)) := div_step v k
      have hC : Chg (fun _ => False) w (wr.setCell ⟨w.heap.size, k, none⟩ (.int .u8 (dg v k + 128))) := hc.setCell (.inr (Nat.le_refl _)) _
      unfold dg at HS hC
      generalize v / 128 ^ k = x at *
      go_wp2
      go_roundw
      case rel => exact ⟨k + 1, by omega, by go_num, by rw [← HD.out], HS, hC⟩
      case measure => simp [intOf]; omega
    · obtain rfl : k = m + 1 := by omega
      have hcell : wr.cell? ⟨w.heap.size, m, none⟩ = some (.int .u8 (dg v m + 128)) := by
        rw [cell_of_row wr w.heap.size m _ 5 (0, 0) HR.out]
        simp [cells8, stage]
      have hfr : wr.frozen? ⟨w.heap.size, m, none⟩ = false := by simp [World.frozen?, HR.out]
      obtain ⟨d0, d1⟩ := dg_bd v m
      have HS : Hid ((wr.setCell ⟨w.heap.size, m, none⟩ (.int .u8 (dg v m))).heap[w.heap.size]? = some (.cells (cells8 (putl (m + 1) v)).toArray 5 (0, 0))) := by
        show _ = _
        rw [blk_setk HR.out, stage_last]
      have hC : Chg (fun _ => False) w (wr.setCell ⟨w.heap.size, m, none⟩ (.int .u8 (dg v m))) := hc.setCell (.inr (Nat.le_refl _)) _
      have hdd : dg v m + 128 - 128 = dg v m := by omega
      generalize dg v m = x at *
      go_wp2
      go_ret2
      exact ⟨rfl, HS.out, hC⟩

/-- The bytes of a number. -/
def vb (v : Int) : List Int := putl (sz v) v

theorem vb_length (v : Int) : (vb v).length = sz v := by simp [vb, putl]

theorem put_any (v : Int) (w : World) (hT : Tab w) (h0 : 0 ≤ v) (h1 : v ≤ 9223372036854775807) :
    Calls Tryd.prog 10 #[.int .u64 v] w fun e w' => e = .returned (.tuple #[.slice (some ⟨w.heap.size, 0, none⟩) (sz v) (sz v), .int .i64 0]) ∧ w'.heap[w.heap.size]? = some (.cells (cells8 (vb v)).toArray 5 (0, 0)) ∧ Chg (fun _ => False) w w' := by
  obtain ⟨n1, n2, -, -⟩ := sz_is (v := v) rfl
  obtain ⟨m, hm⟩ : ∃ m, sz v = m + 1 := ⟨sz v - 1, by omega⟩
  have := put_core v m w hT h0 h1 hm (by omega)
  rw [← hm] at this
  exact this

theorem put_no (v : Int) (w : World) (h1 : 9223372036854775807 < v) :
    Calls Tryd.prog 10 #[.int .u64 v] w fun e w' => e = .returned (.tuple #[.slice none 0 0, .int .i64 7]) ∧ w = w' := by
  go_enter Tryd.func10, Tryd.ntmps10
  go_wp2_with fail
  refine (size_no _ _ h1).mono ?_
  rintro e w1 ⟨rfl, rfl⟩
  go_wp2
  go_ret2
  exact ⟨rfl, rfl⟩

theorem num_any (e : Int) (w : World) : Calls Tryd.prog 11 #[.int .i64 e] w fun x w' => x = .returned (.int .i64 e) ∧ w = w' := by
  go_enter Tryd.func11, Tryd.ntmps11
  go_wp2
  go_ret
  exact ⟨rfl, rfl⟩
end Go.Proofs.YtkjjcdkobapedaaDoor
