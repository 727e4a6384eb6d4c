/- Slots by binary digits; of no statement by itself. -/
import Derived.Test.YtoeimahlielklaaDoorSm
namespace Go.Proofs.YtoeimahlielklaaDoor
set_option linter.unusedVariables false
namespace St12
theorem least_closed : ∀ i, 4 ≤ i → least i = (2 + i % 2) * 2 ^ (i / 2 - 1) + 1
  | 0, h => by omega
  | i + 1, h => by
    by_cases e : i = 3
    · subst e
      decide
    · have ih := least_closed i (by omega)
      show least i + 2 ^ bitsN i = _
      have hb : bitsN i = i / 2 - 1 := by unfold bitsN; rw [if_neg (by omega)]
      rw [hb, ih]
      by_cases p : i % 2 = 0
      · have h1 : (i + 1) % 2 = 1 := by omega
        have h2 : (i + 1) / 2 = i / 2 := by omega
        rw [h1, h2, p]
        generalize 2 ^ (i / 2 - 1) = P
        omega
      · have h0 : i % 2 = 1 := by omega
        have h1 : (i + 1) % 2 = 0 := by omega
        have h2 : (i + 1) / 2 - 1 = (i / 2 - 1) + 1 := by omega
        rw [h0, h1, h2, Nat.pow_succ]
        generalize 2 ^ (i / 2 - 1) = P
        omega
theorem slot_small {x : Nat} (h : x < 4) : slotN (x + 1) = x := by
  rcases x with _ | _ | _ | _ | x
  · decide +kernel
  · decide +kernel
  · decide +kernel
  · decide +kernel
  · omega
/-- The slot of a distance x + 1 whose x has k + 1 binary digits. -/
theorem slot_digits {x k : Nat} (hk : 2 ≤ k) (hk2 : k ≤ 31) (h1 : 2 ^ k ≤ x) (h2 : x < 2 ^ (k + 1)) : slotN (x + 1) = 2 * k + x / 2 ^ (k - 1) % 2 := by
  obtain ⟨j, rfl⟩ : ∃ j, k = j + 1 := ⟨k - 1, by omega⟩
  rw [Nat.add_sub_cancel]
  have hP : 0 < 2 ^ j := Nat.two_pow_pos j
  have e1 : 2 ^ (j + 1) = 2 * 2 ^ j := by rw [Nat.pow_succ, Nat.mul_comm]
  have e2 : 2 ^ (j + 1 + 1) = 4 * 2 ^ j := by rw [Nat.pow_succ, e1]; omega
  rw [e1] at h1
  rw [e2] at h2
  have hq1 : 2 ≤ x / 2 ^ j := (Nat.le_div_iff_mul_le hP).2 h1
  have hq2 : x / 2 ^ j < 4 := (Nat.div_lt_iff_lt_mul hP).2 h2
  have hm := Nat.div_add_mod x (2 ^ j)
  have hr := Nat.mod_lt x hP
  obtain ⟨q, hq⟩ : ∃ q, x / 2 ^ j = q := ⟨_, rfl⟩
  rw [hq] at hq1 hq2 hm ⊢
  have hi : 2 * (j + 1) + q % 2 < 64 := by omega
  have hc := least_closed (2 * (j + 1) + q % 2) (by omega)
  have a1 : (2 * (j + 1) + q % 2) % 2 = q % 2 := by omega
  have a2 : (2 * (j + 1) + q % 2) / 2 - 1 = j := by omega
  rw [a1, a2] at hc
  have hb : bitsN (2 * (j + 1) + q % 2) = j := by unfold bitsN; rw [if_neg (by omega)]; omega
  have hqq : 2 + q % 2 = q := by omega
  rw [hqq] at hc
  refine slotN_is hi ?_ ?_
  · rw [hc, Nat.mul_comm]
    omega
  · show x + 1 < least (2 * (j + 1) + q % 2) + 2 ^ bitsN (2 * (j + 1) + q % 2)
    rw [hb, hc, Nat.mul_comm]
    omega
theorem slot_shift {x k : Nat} (hk : 2 ≤ k) (hk2 : k ≤ 31) (h1 : 2 ^ k ≤ x) (h2 : x < 2 ^ (k + 1)) : slotN (x + 1) = 2 * k + ((x >>> (k - 1)) &&& 1) := by
  rw [slot_digits hk hk2 h1 h2, Nat.shiftRight_eq_div_pow, Nat.and_one_is_mod]
/-- A number's digits. -/
theorem digits {x : Nat} (h : 4 ≤ x) (hm : x < 4294967296) : ∃ k, 2 ≤ k ∧ k ≤ 31 ∧ 2 ^ k ≤ x ∧ x < 2 ^ (k + 1) := by
  refine ⟨Nat.log2 x, ?_, ?_, Nat.log2_self_le (by omega), Nat.lt_log2_self⟩
  · have := (Nat.le_log2 (n := x) (k := 2) (by omega)).2 (by omega)
    exact this
  · have : Nat.log2 x < 32 := (Nat.log2_lt (by omega)).2 (by simpa using hm)
    omega
end St12
end Go.Proofs.YtoeimahlielklaaDoor
