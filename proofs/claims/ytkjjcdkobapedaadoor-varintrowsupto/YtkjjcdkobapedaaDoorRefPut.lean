/- The document's own Put and Size: their contracts; of no statement by themselves. -/
import Derived.Test.YtkjjcdkobapedaaDoorStr
namespace Go.Proofs.YtkjjcdkobapedaaDoor
open Go.RowKit

/-- The bytes behind k rounds. -/
def upTo (v : Int) (k : Nat) : List Int := (List.range k).map fun i => dg v i + 128

theorem upTo_succ (v : Int) (k : Nat) : upTo v (k + 1) = upTo v k ++ [dg v k + 128] := by simp [upTo, List.range_succ]
theorem upTo_length (v : Int) (k : Nat) : (upTo v k).length = k := by simp [upTo]

theorem pow_up {v : Int} {k : Nat} (h : 128 ≤ v / 128 ^ k) : 128 ^ (k + 1) ≤ v := by
  have hp : (0 : Int) < 128 ^ k := Int.pow_pos (by omega)
  have := (Int.le_ediv_iff_mul_le hp).1 h
  rw [Int.pow_succ, Int.mul_comm]
  exact this

theorem upTo_end {v : Int} {k : Nat} (h0 : 0 ≤ v) (h1 : v ≤ 9223372036854775807) (hk : 0 < k → 128 ^ k ≤ v) (h : v / 128 ^ k < 128) : upTo v k ++ [v / 128 ^ k] = vb v ∧ sz v = k + 1 := by
  have hp : (0 : Int) < 128 ^ k := Int.pow_pos (by omega)
  have hq : 0 ≤ v / 128 ^ k := Int.ediv_nonneg h0 (Int.le_of_lt hp)
  have h8 : k ≤ 8 := by
    by_cases e : k ≤ 8
    · exact e
    · have := hk (by omega)
      have := pow_mono (show 9 ≤ k by omega)
      omega
  have hhi : v < 128 ^ (k + 1) := by
    have := Int.lt_mul_of_ediv_lt hp h
    rw [Int.pow_succ, Int.mul_comm]
    exact this
  have hs := sz_eq h8 hk hhi
  refine ⟨?_, hs⟩
  rw [vb, hs, putl, List.range_succ, List.map_append]
  congr 1
  · unfold upTo
    apply List.map_congr_left
    intro i hi
    have := List.mem_range.1 hi
    rw [if_pos (by omega)]
  · simp [dg]
    omega

theorem own_slice {w : World} {B : Nat} {v : Value} {n : Nat} {xs : List Value} (h : w.ownsRow B 5 1 v n xs) : ∃ ad c, v = .slice ad n c := by
  rcases own_shape h with ⟨rfl, rfl⟩ | ⟨g, cap, rfl⟩
  · exact ⟨none, 0, rfl⟩
  · exact ⟨_, cap, rfl⟩

set_option maxHeartbeats 1000000 in
theorem refPut_any (v : Int) (w : World) (h0 : 0 ≤ v) (h1 : v ≤ 9223372036854775807) :
    Calls Tryd.prog 15 #[.int .u64 v] w fun e w' => ∃ p, e = .returned (.tuple #[p, .int .i64 0]) ∧ w'.ownsRow w.heap.size 5 1 p (sz v) (cells8 (vb v)) ∧ Chg (fun _ => False) w w' := by
  obtain ⟨i0, hi, hz0, hz1, hz2⟩ := info_parts info5
  go_enter Tryd.func15, Tryd.ntmps15
  go_wp2_with fail
  go_loopw [0, 4] (fun x b wr => ∃ k : Nat, x = .int .u64 (v / 128 ^ k) ∧ Hid (0 < k → 128 ^ k ≤ v) ∧ k ≤ 8 ∧ wr.ownsRow w.heap.size 5 1 b k (cells8 (upTo v k)) ∧ Chg (fun _ => False) w wr) (fun x _ _ => (intOf x).toNat)
  case atStart => exact ⟨0, by simp, fun h => by omega, by omega, World.ownsRow_nil _ _ _ _, Chg.refl _ _⟩
  case round =>
    obtain ⟨k, rfl, HK, h8, hown, hc⟩ := hrel
    have hp : 0 ≤ v / 128 ^ k := Int.ediv_nonneg h0 (Int.pow_nonneg (by omega))
    have hq : v / 128 ^ k ≤ 9223372036854775807 := Int.le_trans (Int.ediv_le_self _ h0) h1
    have HD : Hid (v / 128 ^ k / 128 = v / 128 ^ (k + 1)) := div_step v k
    have HU : Hid (128 ≤ v / 128 ^ k → 128 ^ (k + 1) ≤ v) := fun h => pow_up h
    have HE : Hid (v / 128 ^ k < 128 → upTo v k ++ [v / 128 ^ k] = vb v ∧ sz v = k + 1) := fun h => upTo_end h0 h1 HK.out h
    have HS : Hid (upTo v (k + 1) = upTo v k ++ [v / 128 ^ k % 128 + 128]) := upTo_succ v k
    have hBr : w.heap.size ≤ wr.heap.size := hc.size
    obtain ⟨ba, bc, rfl⟩ := own_slice hown
    generalize v / 128 ^ k = x at *
    by_cases hx : 128 ≤ x
    · have h88 : k + 1 ≤ 8 := by
        by_cases e : k + 1 ≤ 8
        · exact e
        · have := HU.out hx
          have := pow_mono (show 9 ≤ k + 1 by omega)
          omega
      go_wp2_with (at_builtin; refine wpList_append_moved rfl (.tmp 9) (.tmp 14) 24 rfl w.heap.size 5 i0 (.int .u8 0) 1 1 Tryd.underlying24 hi hz0 hz1 hz2 rfl (by decide) _ k (cells8 (upTo v k)) rfl (some ⟨wr.heap.size, 0, none⟩) 1 1 rfl [.int .u8 (x % 128 + 128)] (hown.alloc _) (row8_one wr (x % 128 + 128) 5).src (oneCells [x % 128 + 128]) (by unfold maxLen; omega) (by omega) (by simp; omega) ?_)
      intro v1 w1 hown1 hg1 hm1
      have hc1 : Chg (fun _ => False) w w1 := (hc.alloc _).grown hg1 (fun j e => .inr ((hown.lt j e).1))
      have HO : Hid (w1.ownsRow w.heap.size 5 1 v1 (k + 1) (cells8 (upTo v (k + 1)))) := by
        show w1.ownsRow _ _ _ _ _ _
        rw [HS.out]
        simpa [cells8] using hown1
      clear hown1 hg1 hm1 hown
      go_wp2
      go_roundw
      case rel => exact ⟨k + 1, by rw [← HD.out], fun _ => HU.out hx, h88, HO.out, hc1⟩
      case measure => simp [intOf]; omega
    · obtain ⟨e1, e2⟩ := HE.out (by omega)
      have hw8 : IntKind.u8.wrap x = x := by
        have e : IntKind.u8.wrap x = x % 256 := by simp [IntKind.wrap, IntKind.signed, IntKind.bits]
        rw [e]
        omega
      have HV : Hid (upTo v k ++ [x] = vb v) := e1
      have HN : Hid (sz v = k + 1) := e2
      clear e1 e2
      go_wp2_with (at_builtin; refine wpList_append_moved rfl (.tmp 18) (.tmp 21) 24 rfl w.heap.size 5 i0 (.int .u8 0) 1 1 Tryd.underlying24 hi hz0 hz1 hz2 rfl (by decide) _ k (cells8 (upTo v k)) rfl (some ⟨wr.heap.size, 0, none⟩) 1 1 rfl [.int .u8 x] (hown.alloc _) (row8_one wr x 5).src (oneCells [x]) (by unfold maxLen; omega) (by omega) (by simp; omega) ?_)
      intro v1 w1 hown1 hg1 hm1
      have hc1 : Chg (fun _ => False) w w1 := (hc.alloc _).grown hg1 (fun j e => .inr ((hown.lt j e).1))
      have HO : Hid (w1.ownsRow w.heap.size 5 1 v1 (sz v) (cells8 (vb v))) := by
        show w1.ownsRow _ _ _ _ _ _
        rw [← HV.out, HN.out]
        simpa [cells8] using hown1
      clear hown1 hg1 hm1 hown
      go_wp2
      go_ret2
      exact ⟨_, rfl, HO.out, hc1⟩

theorem refPut_no (v : Int) (w : World) (h1 : 9223372036854775807 < v) :
    Calls Tryd.prog 15 #[.int .u64 v] w fun e w' => e = .returned (.tuple #[.slice none 0 0, .int .i64 7]) ∧ w = w' := by
  go_enter Tryd.func15, Tryd.ntmps15
  go_wp2
  go_ret2
  exact ⟨rfl, rfl⟩

theorem refSize_any (v : Int) (w : World) (h0 : 0 ≤ v) (h1 : v ≤ 9223372036854775807) :
    Calls Tryd.prog 16 #[.int .u64 v] w fun e w' => e = .returned (.int .i64 (sz v)) ∧ Chg (fun _ => False) w w' := by
  go_enter Tryd.func16, Tryd.ntmps16
  go_wp2_with fail
  refine (refPut_any _ _ h0 h1).mono ?_
  rintro e w1 ⟨p, rfl, hown, hc⟩
  obtain ⟨ba, bc, rfl⟩ := own_slice hown
  clear hown
  go_wp2
  go_ret
  exact ⟨rfl, hc⟩

theorem refSize_no (v : Int) (w : World) (h1 : 9223372036854775807 < v) :
    Calls Tryd.prog 16 #[.int .u64 v] w fun e w' => e = .returned (.int .i64 0) ∧ w = w' := by
  go_enter Tryd.func16, Tryd.ntmps16
  go_wp2_with fail
  refine (refPut_no _ _ h1).mono ?_
  rintro e w1 ⟨rfl, rfl⟩
  go_wp2
  go_ret
  exact ⟨rfl, rfl⟩

end Go.Proofs.YtkjjcdkobapedaaDoor
