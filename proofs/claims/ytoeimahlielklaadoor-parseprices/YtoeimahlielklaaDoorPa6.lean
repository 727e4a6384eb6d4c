/- Prices: mathematics, and the document's own; of no statement by itself. -/
import Derived.Test.YtoeimahlielklaaDoorSc
import Derived.Test.YtoeimahlielklaaDoorSn
import Derived.Test.YtoeimahlielklaaDoorSj
import Derived.Test.YtoeimahlielklaaDoorLastQ
import Derived.Deep.DeepCutAuto
namespace Go.Proofs.YtoeimahlielklaaDoor
open Go.RowKit
open St12
set_option linter.unusedVariables false
set_option linter.unusedSimpArgs false
namespace St12
def longA (n : Int) : Int := if n ≤ 9 then 4 else if n ≤ 17 then 5 else 10
def bitsA (d : Int) : Int := ((bitsN (slotN d.toNat) : Nat) : Int)
/-- A symbol's price, or what is wrong with it. -/
def priceA (y : Sym) : Int × Int :=
  if formed y ≠ 0 then (0, formed y)
  else if y.k = 1 then (9, 0) else if y.k = 4 then (4, 0)
  else if y.k = 3 then ((if y.d < 2 then 4 else 5) + longA y.l, 0)
  else (8 + longA y.l + bitsA y.d, 0)
def pricesA : List Sym → Int × Int
  | [] => (0, 0)
  | y :: l => if (priceA y).2 ≠ 0 then (0, (priceA y).2) else if (pricesA l).2 ≠ 0 then (0, (pricesA l).2) else ((priceA y).1 + (pricesA l).1, 0)
theorem long_bound (n : Int) : 4 ≤ longA n ∧ longA n ≤ 10 := by unfold longA; split <;> (try split) <;> omega
/-- How often a number can be halved till it is below 4. -/
theorem halves {d i : Nat} (h1 : 1 ≤ d) (h2 : d ≤ 4294967295) (hj : ∀ j, j < i → 4 ≤ (d - 1) / 2 ^ j) (hi : (d - 1) / 2 ^ i < 4) : i = bitsN (slotN d) := by
  obtain ⟨x, rfl⟩ : ∃ x, d = x + 1 := ⟨d - 1, by omega⟩
  rw [Nat.add_sub_cancel] at hj hi
  by_cases hx : x < 4
  · rw [slot_small hx]
    have : bitsN x = 0 := by unfold bitsN; rw [if_pos hx]
    rw [this]
    rcases Nat.eq_zero_or_pos i with e | e
    · exact e
    · have := hj 0 e
      simp at this
      omega
  · obtain ⟨k, k1, k2, k3, k4⟩ := digits (x := x) (by omega) (by omega)
    rw [slot_digits k1 k2 k3 k4]
    have hb : bitsN (2 * k + x / 2 ^ (k - 1) % 2) = k - 1 := by
      unfold bitsN
      rw [if_neg (by omega)]
      have := Nat.mod_lt (x / 2 ^ (k - 1)) (y := 2) (by decide)
      omega
    rw [hb]
    have e1 : x / 2 ^ (k - 1) < 4 := by
      rw [Nat.div_lt_iff_lt_mul (Nat.two_pow_pos _)]
      have : 4 * 2 ^ (k - 1) = 2 ^ (k + 1) := by
        rw [show k + 1 = (k - 1) + 2 by omega, Nat.pow_add]
        omega
      omega
    have e2 : ∀ j, j < k - 1 → 4 ≤ x / 2 ^ j := fun j hj => by
      rw [Nat.le_div_iff_mul_le (Nat.two_pow_pos _)]
      have : 4 * 2 ^ j ≤ 2 ^ k := by
        rw [show 4 * 2 ^ j = 2 ^ (j + 2) by rw [Nat.pow_add]; omega]
        exact Nat.pow_le_pow_right (by decide) (by omega)
      omega
    rcases Nat.lt_trichotomy i (k - 1) with h | h | h
    · have := e2 i h; omega
    · exact h
    · have := hj (k - 1) h; omega
theorem bits_bound {d : Int} (h1 : 1 ≤ d) (h2 : d ≤ 4294967295) : 0 ≤ bitsA d ∧ bitsA d ≤ 30 := by
  unfold bitsA
  refine ⟨by omega, ?_⟩
  obtain ⟨x, hx⟩ : ∃ x, d.toNat = x + 1 := ⟨d.toNat - 1, by omega⟩
  rw [hx]
  by_cases hx4 : x < 4
  · rw [slot_small hx4]
    unfold bitsN
    rw [if_pos hx4]
    decide
  · obtain ⟨k, k1, k2, k3, k4⟩ := digits (x := x) (by omega) (by omega)
    rw [slot_digits k1 k2 k3 k4]
    unfold bitsN
    have := Nat.mod_lt (x / 2 ^ (k - 1)) (y := 2) (by decide)
    split <;> omega
theorem price_bound (y : Sym) : 0 ≤ (priceA y).1 ∧ (priceA y).1 ≤ 48 := by
  unfold priceA
  split
  · simp
  · next h =>
    have hf : formed y = 0 := by simpa using h
    have hl := long_bound y.l
    rcases formed_kind hf with k | k | k | k
    · simp [k]
    · have hb := bits_bound k.2.2.2.1 k.2.2.2.2
      rw [if_neg (by omega), if_neg (by omega), if_neg (by omega)]
      simp only
      omega
    · rw [if_neg (by omega), if_neg (by omega), if_pos k.1]
      simp only
      split <;> omega
    · rw [if_neg (by omega), if_pos k]
      simp
theorem price_err (y : Sym) : (priceA y).2 = formed y := by
  unfold priceA
  split
  · rfl
  · next h =>
    have hf : formed y = 0 := by simpa using h
    rw [hf]
    split
    · rfl
    · split
      · rfl
      · split <;> rfl
theorem prices_snoc {l : List Sym} {s : Int} {y : Sym} (h : pricesA l = (s, 0)) (hy : (priceA y).2 = 0) : pricesA (l ++ [y]) = (s + (priceA y).1, 0) := by
  induction l generalizing s with
  | nil =>
    simp only [pricesA] at h ⊢
    injection h with h _
    subst h
    simp [pricesA, hy]
  | cons z l ih =>
    simp only [pricesA] at h
    split at h
    · next h1 => injection h with _ h2; exact absurd h2 h1
    · next h1 =>
      split at h
      · next h2 => injection h with _ h3; exact absurd h3 h2
      · next h2 =>
        injection h with h3 _
        have h4 : pricesA l = ((pricesA l).1, 0) := by
          have h5 : (pricesA l).2 = 0 := by simpa using h2
          exact Prod.ext rfl h5
        have h6 := ih h4
        rw [List.cons_append]
        simp only [pricesA]
        rw [if_neg h1, h6, if_neg (by simp)]
        simp only [Prod.mk.injEq, and_true]
        omega
theorem prices_stop {l r : List Sym} {s : Int} {y : Sym} (h : pricesA l = (s, 0)) (hy : (priceA y).2 ≠ 0) : pricesA (l ++ y :: r) = (0, (priceA y).2) := by
  induction l generalizing s with
  | nil => simp [pricesA, hy]
  | cons z l ih =>
    simp only [pricesA] at h
    split at h
    · next h1 => injection h with _ h2; exact absurd h2 h1
    · next h1 =>
      split at h
      · next h2 => injection h with _ h3; exact absurd h3 h2
      · next h2 =>
        have h4 : pricesA l = ((pricesA l).1, 0) := by
          have h5 : (pricesA l).2 = 0 := by simpa using h2
          exact Prod.ext rfl h5
        rw [List.cons_append]
        simp only [pricesA]
        rw [if_neg h1, ih h4, if_pos hy]
theorem prices_bound : ∀ (l : List Sym), 0 ≤ (pricesA l).1 ∧ (pricesA l).1 ≤ 48 * (l.length : Int)
  | [] => by simp [pricesA]
  | y :: l => by
    have h1 := price_bound y
    have h2 := prices_bound l
    simp only [pricesA, List.length_cons]
    split
    · simp; omega
    · split
      · simp; omega
      · simp only; omega
end St12
theorem rlong16_q (n : Int) (w : World) : Calls Tryd.prog 13 #[.int .i64 n] w fun e w' => e = .returned (.int .i64 (longA n)) ∧ w' = w := by
  by_cases h1 : n ≤ 9
  · have HA : Hid (longA n = 4) := by show _ = _; unfold longA; rw [if_pos h1]
    have d1 : decide (n ≤ 9) = true := decide_eq_true h1
    go_enter Tryd.func13, Tryd.ntmps13
    go_wp2
    go_ret
    exact ⟨by rw [HA.out]; rfl, rfl⟩
  · have d1 : decide (n ≤ 9) = false := decide_eq_false h1
    by_cases h2 : n ≤ 17
    · have HA : Hid (longA n = 5) := by show _ = _; unfold longA; rw [if_neg h1, if_pos h2]
      have d2 : decide (n ≤ 17) = true := decide_eq_true h2
      go_enter Tryd.func13, Tryd.ntmps13
      go_wp2
      go_ret
      exact ⟨by rw [HA.out]; rfl, rfl⟩
    · have HA : Hid (longA n = 10) := by show _ = _; unfold longA; rw [if_neg h1, if_neg h2]
      have d2 : decide (n ≤ 17) = false := decide_eq_false h2
      go_enter Tryd.func13, Tryd.ntmps13
      go_wp2
      go_ret
      exact ⟨by rw [HA.out]; rfl, rfl⟩
set_option maxHeartbeats 2000000 in
theorem rbits16_q (d : Nat) (h1 : 1 ≤ d) (h2 : d ≤ 4294967295) (w : World) : Calls Tryd.prog 14 #[.int .i64 (d : Int)] w fun e w' => e = .returned (.int .i64 (bitsA (d : Int))) ∧ w' = w := by
  have HB : Hid (∀ i : Nat, (∀ j : Nat, j < i → 4 ≤ (d - 1) / 2 ^ j) → (d - 1) / 2 ^ i < 4 → bitsA (d : Int) = (i : Int)) := fun i a b => by
    unfold bitsA
    rw [Int.toNat_natCast, ← halves h1 h2 a b]
  have hx : ((d : Int) - 1) = ((d - 1 : Nat) : Int) := by omega
  generalize hX : d - 1 = X at *
  have hX9 : (X : Int) ≤ 4294967295 := by omega
  have HX : Hid (X ≤ 4294967295) := by show _ ≤ _; omega
  go_enter Tryd.func14, Tryd.ntmps14
  clear hX h1 h2
  go_wp2_with fail
  go_loopw [3, 4] (fun v3 v4 wr => ∃ i z : Nat, v3 = .int .i64 (i : Int) ∧ v4 = .int .i64 (z : Int) ∧ (z : Int) ≤ 4294967295 ∧ (i : Int) + (z : Int) ≤ 4294967295 ∧ Hid (z = X / 2 ^ i ∧ ∀ j, j < i → 4 ≤ X / 2 ^ j) ∧ wr = w) (fun _ v4 _ => (intOf v4).toNat)
  case atStart => exact ⟨0, X, rfl, by go_num, hX9, by omega, ⟨by simp, fun j hj => by omega⟩, rfl⟩
  case round =>
    obtain ⟨i, z, rfl, rfl, hz, hiz, HZ, rfl⟩ := hrel
    by_cases h4 : 4 ≤ z
    · have d4 : decide (4 ≤ (z : Int)) = true := by simp; omega
      have d4' : decide (4 ≤ z) = true := decide_eq_true h4
      have HN : Hid (z / 2 = X / 2 ^ (i + 1) ∧ ∀ j, j < i + 1 → 4 ≤ X / 2 ^ j) := ⟨by rw [HZ.out.1, Nat.div_div_eq_div_mul, Nat.pow_succ], fun j hj => by
        by_cases e : j = i
        · subst e; rw [← HZ.out.1]; exact h4
        · exact HZ.out.2 j (by omega)⟩
      have hq : (z : Int).tdiv 2 = ((z / 2 : Nat) : Int) := rfl
      clear HZ
      go_wp2_with fail
      exact ⟨⟨i + 1, z / 2, by go_num, by first | rfl | go_num | simp, by omega, by omega, HN.out, trivial⟩, by simp [intOf]; omega⟩
    · have d4 : decide (4 ≤ (z : Int)) = false := by simp; omega
      have d4' : decide (4 ≤ z) = false := decide_eq_false h4
      have HA : Hid (bitsA (d : Int) = (i : Int)) := HB.out i HZ.out.2 (by rw [← HZ.out.1]; omega)
      clear HZ HB
      go_wp2
      go_ret
      exact ⟨by rw [HA.out]; rfl, rfl⟩
end Go.Proofs.YtoeimahlielklaaDoor
