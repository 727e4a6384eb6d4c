/- The contracts of within, Next, Bound, costOfZero, Cost and paid; of no statement by themselves. -/
import Derived.Test.YtloenokbkmhceaaBase
import Derived.Test.YtloenokbkmhceaaProb
namespace Go.Proofs.Ytloenokbkmhceaa
open Go.RowKit
set_option linter.unusedVariables false

/-- A number of 64 bits. -/
def I64 (p : Int) : Prop := -9223372036854775808 ≤ p ∧ p ≤ 9223372036854775807

theorem within_any (p : Int) (w : World) (hp : I64 p) : Calls Try.prog 21 #[.int .i64 p] w fun e w' => e = .returned (.int .i64 (Prob.cl p)) ∧ w = w' := by
  have h1 := hp.1
  have h2 := hp.2
  go_enter Try.func21, Try.ntmps21
  go_wp2
  all_goals
    go_ret
    refine ⟨?_, rfl⟩
    unfold Prob.cl
    congr 2
    repeat' split
    all_goals first | rfl | (exfalso; rename_i hh _; revert hh; split <;> omega) | omega

theorem next_any (p b : Int) (w : World) (hp : I64 p) : Calls Try.prog 8 #[.int .i64 p, .int .i64 b] w fun e w' => e = .returned (.int .i64 (Prob.nx p b)) ∧ w = w' := by
  have l := Prob.cl_lo p
  have r := Prob.cl_hi p
  have HN : Hid (Prob.nx p b = if b = 0 then Prob.cl p + (2048 - Prob.cl p) / 32 else Prob.cl p - Prob.cl p / 32) := rfl
  go_enter Try.func8, Try.ntmps8
  go_wp2_with fail
  refine (within_any p _ hp).mono ?_
  rintro e w1 ⟨rfl, rfl⟩
  generalize Prob.cl p = q at *
  by_cases hb : b = 0
  · go_wp2
    go_ret
    exact ⟨by rw [HN.out, if_pos hb]; rfl, rfl⟩
  · go_wp2
    go_ret
    exact ⟨by rw [HN.out, if_neg hb]; rfl, rfl⟩

/-- A number of 32 bits. -/
def U32 (r : Int) : Prop := 0 ≤ r ∧ r ≤ 4294967295

theorem bound_any (r p : Int) (w : World) (hr : U32 r) (hp : I64 p) : Calls Try.prog 10 #[.int .u32 r, .int .i64 p] w fun e w' => e = .returned (.int .u32 (Prob.bo r p)) ∧ w = w' := by
  have l := Prob.cl_lo p
  have h := Prob.cl_hi p
  have h1 := hr.1
  have h2 := hr.2
  have HN : Hid (Prob.bo r p = r / 2048 * Prob.cl p) := rfl
  have b1 := (Prob.bo_in r p h1).1
  have b2 := (Prob.bo_in r p h1).2
  rw [HN.out] at b1 b2
  go_enter Try.func10, Try.ntmps10
  go_wp2_with fail
  refine (within_any p _ hp).mono ?_
  rintro e w1 ⟨rfl, rfl⟩
  generalize Prob.cl p = q at *
  generalize hm : r / 2048 * q = m at *
  go_wp2
  go_ret
  exact ⟨by rw [HN.out]; rfl, rfl⟩

theorem paid_any (c : Int) (w : World) (h1 : 1 ≤ c) (h2 : c ≤ 103) : Calls Try.prog 14 #[.int .i64 c] w fun e w' => e = .returned (.bool true) ∧ w = w' := by
  go_enter Try.func14, Try.ntmps14
  go_wp2
  go_ret
  exact ⟨rfl, rfl⟩

theorem sq_in {W : Int} (h : 0 ≤ W) (h2 : W < 65536) : 0 ≤ W * W ∧ W * W < 4294967296 := by
  have e : W * W ≤ 65535 * 65535 := Int.mul_le_mul (by omega) (by omega) h (by omega)
  have e0 : 0 ≤ W * W := Int.mul_nonneg h h
  omega

set_option maxHeartbeats 1000000 in
theorem costOfZero_any (p : Int) (w : World) (h0 : 0 ≤ p) (h1 : p ≤ 2047) : Calls Try.prog 22 #[.int .i64 p] w fun e w' => e = .returned (.int .i64 (Prob.cost p)) ∧ w = w' := by
  obtain ⟨R, hR⟩ : ∃ R, Prob.rest 4 (16 * (p / 16) + 8) 0 = R := ⟨_, rfl⟩
  have HR : Hid (Prob.rest 4 (16 * (p / 16) + 8) 0 = R) := hR
  have HC : Hid (Prob.cost p = 161 - R) := by show _ = _; unfold Prob.cost; rw [hR]
  have hlo : 0 ≤ 16 * (p / 16) + 8 ∧ 16 * (p / 16) + 8 < 65536 := by omega
  clear hR
  go_enter Try.func22, Try.ntmps22
  go_wp2
  go_loop [10, 3, 4] (fun i z c => ∃ (k : Nat) (W C : Int), k ≤ 4 ∧ i = .int .i64 k ∧ z = .int .u32 W ∧ c = .int .i64 C ∧ 0 ≤ W ∧ W < 65536 ∧ 0 ≤ C ∧ C ≤ Prob.cap k ∧ Hid (Prob.rest (4 - k) W C = R)) (fun i _ _ => 4 - (intOf i).toNat)
  case atStart => exact ⟨0, _, 0, by omega, rfl, rfl, rfl, by omega, by omega, by omega, Int.le_refl _, by show _ = _; rw [Int.mul_comm]; exact HR.out⟩
  case round =>
    obtain ⟨k, W, C, hk, rfl, rfl, rfl, hW0, hW1, hC0, hC1, HRk⟩ := hrel
    have hcl := Prob.cap_le k (by omega)
    by_cases hlt : k < 4
    · have hS := sq_in hW0 hW1
      have HK : Hid (Prob.cap (k + 1) = 2 * Prob.cap k + 16) := rfl
      have HRn : Hid (Prob.rest (4 - (k + 1)) (Prob.halve 16 (W * W) (2 * C)).1 (Prob.halve 16 (W * W) (2 * C)).2 = R) := by
        have e : 4 - k = 4 - (k + 1) + 1 := by omega
        have h := HRk.out
        rw [e] at h
        exact h
      clear HRk
      have hs1 := hS.1
      have hs2 := hS.2
      clear hS
      generalize Prob.cap k = cp at *
      generalize hS : W * W = SS at *
      go_wp2
      go_loop [3, 4] (fun z c => ∃ (n : Nat) (W2 C2 : Int), n ≤ 16 ∧ z = .int .u32 W2 ∧ c = .int .i64 C2 ∧ 0 ≤ W2 ∧ W2 < Prob.big n ∧ 2 * C ≤ C2 ∧ C2 ≤ 2 * C + 16 - n ∧ Hid (Prob.halve 16 SS (2 * C) = Prob.halve n W2 C2)) (fun z _ => (intOf z).toNat)
      case atStart => exact ⟨16, _, _, by omega, rfl, rfl, hs1, hs2, by omega, by omega, by show _ = _; rw [Int.mul_comm 2 C]⟩
      case round =>
        obtain ⟨n, W2, C2, hn, rfl, rfl, h20, h21, hc0, hc1, Hh⟩ := hrel
        have hbl := Prob.big_le n (by omega)
        by_cases hge : 65536 ≤ W2
        · cases n with
          | zero => exact absurd h21 (by show ¬ W2 < 65536; omega)
          | succ n =>
            have HB : Hid (Prob.big (n + 1) = 2 * Prob.big n) := rfl
            have HT := Prob.halve_step n W2 C2 hge
            go_wp2
            go_round
            case rel => exact ⟨n, _, _, by omega, rfl, rfl, by omega, by have := HB.out; omega, by omega, by omega, Hh.out.trans HT⟩
            case measure => simp [intOf]; omega
        · have HE := Prob.halve_end n W2 C2 (by omega)
          go_wp2
          go_round
          case rel => exact ⟨k + 1, W2, C2, by omega, by go_num, rfl, rfl, h20, by omega, by omega, by have := HK.out; omega, by show _ = _; rw [← HRn.out, Hh.out, HE]⟩
          case measure => simp [intOf]; omega
    · obtain rfl : k = 4 := by omega
      have HE : C = R := HRk.out
      go_wp2
      go_ret
      exact ⟨by rw [HC.out]; rfl, rfl⟩

theorem cost_any (p b : Int) (w : World) (hp : I64 p) : Calls Try.prog 9 #[.int .i64 p, .int .i64 b] w fun e w' => e = .returned (.int .i64 (Prob.co p b)) ∧ w = w' := by
  have l := Prob.cl_lo p
  have r := Prob.cl_hi p
  have HN : Hid (Prob.co p b = if b = 0 then Prob.cost (Prob.cl p) else Prob.cost (2047 - Prob.cl p)) := rfl
  go_enter Try.func9, Try.ntmps9
  go_wp2_with fail
  refine (within_any p _ hp).mono ?_
  rintro e w1 ⟨rfl, rfl⟩
  generalize Prob.cl p = q at *
  by_cases hb : b = 0
  · go_wp2_with fail
    refine (costOfZero_any q _ l r).mono ?_
    rintro e w1 ⟨rfl, rfl⟩
    go_wp2
    go_ret
    exact ⟨by rw [HN.out, if_pos hb]; rfl, rfl⟩
  · go_wp2_with fail
    refine (costOfZero_any (2047 - q) _ (by omega) (by omega)).mono ?_
    rintro e w1 ⟨rfl, rfl⟩
    go_wp2
    go_ret
    exact ⟨by rw [HN.out, if_neg hb]; rfl, rfl⟩

end Go.Proofs.Ytloenokbkmhceaa
