/- The program's slots; of no statement by itself. -/
import Derived.Test.YtoeimahlielklaaDoorVa
import Derived.Test.YtoeimahlielklaaDoorSn
import Derived.Test.YtoeimahlielklaaDoorSa
namespace Go.Proofs.YtoeimahlielklaaDoor
open Go.RowKit
open St12
set_option linter.unusedVariables false
set_option linter.unusedSimpArgs false

theorem wrap_low (n : Nat) {bt : Nat} (hb : bt ≤ 30) : wrap64 ((2 + (n : Int) % 2) * 2 ^ bt) = (((2 + n % 2) * 2 ^ bt : Nat) : Int) := by
  have hp : 2 ^ bt ≤ 1073741824 := by
    have := Nat.pow_le_pow_right (n := 2) (by omega) hb
    simpa using this
  rw [pow_int]
  generalize 2 ^ bt = P at *
  have h2 : (n : Int) % 2 = ((n % 2 : Nat) : Int) := by omega
  rw [h2]
  have h3 : n % 2 < 2 := Nat.mod_lt _ (by omega)
  generalize n % 2 = c at *
  have h4 : (2 + (c : Int)) * (P : Int) = (((2 + c) * P : Nat) : Int) := by simp
  have h5 : (2 + c) * P ≤ 3 * P := Nat.mul_le_mul_right _ (by omega)
  rw [h4]
  generalize (2 + c) * P = Q at *
  unfold wrap64
  omega
theorem low_q (n L B : Nat) (hn : n < 64) (hL : L + 1 = least n) (hB : B = bitsN n) (w : World) : Calls Tryd.prog 28 #[.int .i64 (n : Int)] w fun e w' => e = .returned (.tuple #[.int .i64 (L : Int), .int .i64 (B : Int)]) ∧ w' = w := by
  have hni : (n : Int) < 64 := by omega
  by_cases h4 : n < 4
  · have d2 : decide ((n : Int) < 4) = true := by simp; omega
    have d2' : decide (n < 4) = true := decide_eq_true h4
    have HL : Hid (L = n ∧ B = 0) := by
      show _ ∧ _
      rw [hB]
      rcases n with _ | _ | _ | _ | n
      · exact ⟨by have : least 0 = 1 := by decide
                  omega, by decide⟩
      · exact ⟨by have : least (0 + 1) = 2 := by decide
                  omega, by decide⟩
      · exact ⟨by have : least (0 + 1 + 1) = 3 := by decide
                  omega, by decide⟩
      · exact ⟨by have : least (0 + 1 + 1 + 1) = 4 := by decide
                  omega, by decide⟩
      · omega
    clear hL hB
    go_enter Tryd.func28, Tryd.ntmps28
    go_wp2
    go_ret2
    exact ⟨by rw [HL.out.1, HL.out.2]; rfl, rfl⟩
  · have d2 : decide ((n : Int) < 4) = false := by simp; omega
    have d2' : decide (n < 4) = false := decide_eq_false h4
    have hb : bitsN n = n / 2 - 1 := by unfold bitsN; rw [if_neg h4]
    have hl := least_closed n (by omega)
    rw [← hb, ← hB] at hl
    have hb30 := bitsN_le hn
    rw [← hB] at hb30 hb
    have hbi : (n : Int) / 2 - 1 = (B : Int) := by omega
    have HB : Hid (L = (2 + n % 2) * 2 ^ B) := by show _ = _; omega
    have H30 : Hid (B ≤ 30) := hb30
    clear hL hB hb hl
    go_enter Tryd.func28, Tryd.ntmps28
    go_wp2
    go_ret2
    exact ⟨by rw [HB.out, ← wrap_low n H30.out]; rfl, rfl⟩
theorem trange_q (i : Int) (hi : I64 i) (w : World) : Calls Tryd.prog 26 #[.int .i64 i] w fun e w' => e = .returned (.tuple #[.int .i64 (rangeA i).1, .int .i64 (rangeA i).2.1, .int .i64 (rangeA i).2.2]) ∧ Chg (fun _ => False) w w' := by
  have HC : Hid (Chg (fun _ => False) w w) := Chg.refl _ _
  by_cases h0 : i < 0
  · have d0 : decide (i < 0) = true := decide_eq_true h0
    have HF : Hid (rangeA i = (0, 0, 7)) := by show rangeA i = _; unfold rangeA; rw [if_neg (by omega)]
    go_enter Tryd.func26, Tryd.ntmps26
    go_wp2
    go_ret3
    exact ⟨by rw [HF.out]; rfl, HC.out⟩
  have d0 : decide (i < 0) = false := decide_eq_false h0
  by_cases h1 : 64 ≤ i
  · have d1 : decide (64 ≤ i) = true := decide_eq_true h1
    have HF : Hid (rangeA i = (0, 0, 7)) := by show rangeA i = _; unfold rangeA; rw [if_neg (by omega)]
    go_enter Tryd.func26, Tryd.ntmps26
    go_wp2
    go_ret3
    exact ⟨by rw [HF.out]; rfl, HC.out⟩
  have d1 : decide (64 ≤ i) = false := decide_eq_false h1
  obtain ⟨n, rfl⟩ : ∃ n : Nat, i = (n : Int) := ⟨i.toNat, by omega⟩
  have hn : n < 64 := by omega
  obtain ⟨L, hL⟩ : ∃ L, L + 1 = least n := ⟨least n - 1, by have := least_mono (Nat.zero_le n); have : least 0 = 1 := rfl; omega⟩
  have hle := least_le hn
  have hLi : (L : Int) ≤ 3221225473 := by omega
  have HF : Hid (rangeA (n : Int) = ((L : Int) + 1, (bitsN n : Int), 0)) := by show rangeA _ = _; unfold rangeA; rw [if_pos (by omega), Int.toNat_natCast, ← hL]; simp
  have HQ : Hid _ := low_q n L (bitsN n) hn hL rfl w
  clear hL hle
  go_enter Tryd.func26, Tryd.ntmps26
  go_wp2_with fail
  refine Calls.mono HQ.out ?_
  rintro z w2 ⟨rfl, rfl⟩
  clear HQ
  go_wp2
  go_ret3
  exact ⟨by rw [HF.out]; rfl, HC.out⟩
end Go.Proofs.YtoeimahlielklaaDoor
