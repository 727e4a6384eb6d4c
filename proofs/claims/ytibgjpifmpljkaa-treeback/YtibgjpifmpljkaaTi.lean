/- The contract of the law's alike of two rows of the program's; how many numbers differ, either way round; of no statement by itself. -/
import Derived.Test.YtibgjpifmpljkaaTh
namespace Go.Proofs.Ytibgjpifmpljkaa
open Go.RowKit
set_option linter.unusedVariables false

theorem diff_comm (xs ys : List Int) : ∀ n, diff xs ys n = diff ys xs n
  | 0 => rfl
  | n + 1 => by
    rw [diff_succ, diff_succ, diff_comm xs ys n]
    by_cases h : xs.getD n 1024 = ys.getD n 1024
    · rw [if_neg (fun f => f h), if_neg (fun f => f h.symm)]
    · rw [if_pos h, if_pos (fun f => h f.symm)]
theorem diff_le (xs ys : List Int) : ∀ n, diff xs ys n ≤ n
  | 0 => Nat.le_refl _
  | n + 1 => by
    rw [diff_succ]
    have := diff_le xs ys n
    split <;> omega
theorem getD_at {xs : List Int} {i : Nat} (h : i < xs.length) : xs.getD i 1024 = xs[i] := by simp [List.getD, h]

set_option maxHeartbeats 1000000 in
set_option maxRecDepth 100000 in
theorem alike2_any (B B' a b : Nat) (v t : Value) (xs : List Int) (w : World) (hS : St w B a v xs) (hR : St w B' b t xs) (hI : In xs) (hn : xs.length ≤ 1048576) : Calls Try.prog 21 #[.pointer (some ⟨a, 0, none⟩), .pointer (some ⟨b, 0, none⟩)] w fun e w' => e = .returned (.bool true) ∧ w = w' := by
  have HS : Hid (St w B a v xs) := hS
  have HR : Hid (St w B' b t xs) := hR
  obtain ⟨L, hL⟩ : ∃ L, xs.length = L := ⟨_, rfl⟩
  have HLA : Hid (∀ w', w' = w → Calls Try.prog 16 #[.pointer (some ⟨a, 0, none⟩)] w' fun e w'' => e = .returned (.int .i64 (L : Int)) ∧ w = w'') := by
    show ∀ w', _
    rintro w' rfl
    rw [← hL]
    exact len_any B a v xs w' hS
  have HLB : Hid (Calls Try.prog 16 #[.pointer (some ⟨b, 0, none⟩)] w fun e w'' => e = .returned (.int .i64 (L : Int)) ∧ w = w'') := by
    show Calls _ _ _ _ _
    rw [← hL]
    exact len_any B' b t xs w hR
  rw [hL] at hn
  clear hS hR
  go_enter Try.func21, Try.ntmps21
  go_wp2_with fail
  refine Calls.mono (HLA.out _ rfl) ?_
  rintro x w1 ⟨rfl, rfl⟩
  go_wp2_with fail
  refine Calls.mono HLB.out ?_
  rintro x w1 ⟨rfl, rfl⟩
  go_wp2_with fail
  go_loopw [5] (fun iv wr => ∃ i : Nat, i ≤ L ∧ iv = .int .i64 (i : Int) ∧ wr = w) (fun iv _ => L - (intOf iv).toNat)
  case atStart => exact ⟨0, Nat.zero_le _, rfl, rfl⟩
  case round =>
    obtain ⟨i, hi, rfl, rfl⟩ := hrel
    by_cases h : i < L
    · have hd : decide ((i : Int) < (L : Int)) = true := by simp; omega
      go_wp2_with fail
      refine Calls.mono (HLA.out _ rfl) ?_
      rintro x w1 ⟨rfl, rfl⟩
      go_wp2_with fail
      refine (at_in B a v xs i _ HS.out hI (by omega)).mono ?_
      rintro x w1 ⟨rfl, rfl⟩
      go_wp2_with fail
      refine (at_in B' b t xs i _ HR.out hI (by omega)).mono ?_
      rintro x w1 ⟨rfl, rfl⟩
      generalize xs[i]'(by omega) = p
      go_wp2_with fail
      go_roundw
      case rel => exact ⟨i + 1, by omega, by go_num, trivial⟩
      case measure => simp [intOf]; omega
    · have hd : decide ((i : Int) < (L : Int)) = false := by simp; omega
      go_wp2_with fail
      refine Calls.mono (HLA.out _ rfl) ?_
      rintro x w1 ⟨rfl, rfl⟩
      go_wp2
      go_ret
      exact ⟨rfl, rfl⟩
end Go.Proofs.Ytibgjpifmpljkaa
