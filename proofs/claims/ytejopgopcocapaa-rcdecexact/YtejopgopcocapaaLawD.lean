/- The contracts of the law's num, low and alike; of no statement by themselves. -/
import Derived.Test.YtejopgopcocapaaWk
import Derived.Test.YtejopgopcocapaaRdD
import Derived.Laws.BitsAllLaws
namespace Go.Proofs.Ytejopgopcocapaa
open Go.RowKit
set_option linter.unusedVariables false

theorem num_any (i : Int) (w : World) : Calls Try.prog 10 #[.int .i64 i] w fun e w' => e = .returned (.int .i64 i) ∧ w = w' := by
  go_enter Try.func10, Try.ntmps10
  go_wp2
  go_ret
  exact ⟨rfl, rfl⟩

theorem and_low (x n : Nat) (hx : x ≤ 4294967295) (hn : n < 32) : bits .and .u32 (x : Int) (((2 : Int) ^ n - 1) % 4294967296) = ((x % 2 ^ n : Nat) : Int) := by
  have h1 : 2 ^ n ≤ 2 ^ 31 := Nat.pow_le_pow_right (by omega) (by omega)
  have h2 : 0 < 2 ^ n := Nat.pow_pos (by omega)
  have h3 : ((2 : Int) ^ n) = ((2 ^ n : Nat) : Int) := by simp
  rw [h3, show (((2 ^ n : Nat) : Int) - 1) % 4294967296 = ((2 ^ n - 1 : Nat) : Int) by omega, u32_and_nat _ _ (by omega) (by omega), Nat.and_two_pow_sub_one_eq_mod]
theorem low_any (x n : Nat) (w : World) (hx : x ≤ 4294967295) (hn : n ≤ 32) : Calls Try.prog 17 #[.int .u32 (x : Int), .int .i64 (n : Int)] w fun e w' => e = .returned (.int .u32 ((x % 2 ^ n : Nat) : Int)) ∧ w = w' := by
  by_cases h32 : n = 32
  · subst h32
    have e : x % 2 ^ 32 = x := Nat.mod_eq_of_lt (by omega)
    rw [e]
    go_enter Try.func17, Try.ntmps17
    go_wp2
    go_ret
    exact ⟨rfl, rfl⟩
  · have h1 : ¬ (32 ≤ (n : Int)) := by omega
    have hd : decide ((32 : Int) ≤ (n : Int)) = false := by simp; omega
    go_enter Try.func17, Try.ntmps17
    go_wp2_with fail
    go_ret
    have hz := (and_low x n hx (by omega)).trans (show ((x % 2 ^ n : Nat) : Int) = (x : Int) % 2 ^ n by simp)
    exact ⟨congrArg (fun z => Ending.returned (Value.int .u32 z)) hz, rfl⟩

set_option maxHeartbeats 1000000 in
set_option maxRecDepth 100000 in
theorem alike_any (B B' a r : Nat) (m : Int) (v t : Value) (xs : List Int) (w : World) (hS : St w B a v xs) (hR : Rt w B' r m t xs) (hI : In xs) (hn : xs.length ≤ 1048576) : Calls Try.prog 26 #[.pointer (some ⟨a, 0, none⟩), .pointer (some ⟨r, 0, none⟩), .int .i64 (xs.length : Int)] w fun e w' => e = .returned (.bool true) ∧ w = w' := by
  have HS : Hid (St w B a v xs) := hS
  have HR : Hid (Rt w B' r m t xs) := hR
  obtain ⟨L, hL⟩ : ∃ L, xs.length = L := ⟨_, rfl⟩
  rw [hL] at hn ⊢
  clear hS hR
  go_enter Try.func26, Try.ntmps26
  go_wp2_with fail
  go_loopw [7] (fun iv wr => ∃ i : Nat, i ≤ L ∧ iv = .int .i64 (i : Int) ∧ wr = w) (fun iv _ => L - (intOf iv).toNat)
  case atStart => exact ⟨0, Nat.zero_le _, rfl, rfl⟩
  case round =>
    obtain ⟨i, hi, rfl, rfl⟩ := hrel
    by_cases h : i < L
    · go_wp2_with fail
      refine (at_in B a v xs i _ HS.out hI (by omega)).mono ?_
      rintro x w1 ⟨rfl, rfl⟩
      go_wp2_with fail
      refine (rat_in B' r m t xs i _ HR.out (by omega)).mono ?_
      rintro x w1 ⟨rfl, rfl⟩
      generalize xs[i]'(by omega) = p
      go_wp2_with fail
      refine (num_any _ _).mono ?_
      rintro x w1 ⟨rfl, rfl⟩
      go_wp2
      go_roundw
      case rel => exact ⟨i + 1, by omega, by go_num, trivial⟩
      case measure => simp [intOf]; omega
    · have hd : decide ((i : Int) < (L : Int)) = false := by simp; omega
      go_wp2
      go_ret
      exact ⟨rfl, rfl⟩
end Go.Proofs.Ytejopgopcocapaa
