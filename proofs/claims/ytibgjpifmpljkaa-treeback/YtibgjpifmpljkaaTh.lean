/- Bits the other way round; how many numbers of a row have moved: mathematics; of no statement by itself. -/
import Derived.Test.YtibgjpifmpljkaaTs
namespace Go.Proofs.Ytibgjpifmpljkaa
open Go.RowKit
set_option linter.unusedVariables false

theorem bits_num_rev : ∀ (l : List Nat), Bits01 l.reverse → ∀ i b, l.reverse[i]? = some b → numF 0 l.reverse / 2 ^ (l.reverse.length - 1 - i) % 2 = b
  | [], _, i, b, h => by simp at h
  | x :: l, h01, i, b, h => by
    rw [List.reverse_cons] at h01 h ⊢
    have hx : x ≤ 1 := h01 x (List.mem_append.2 (.inr (List.mem_singleton.2 rfl)))
    have h01' : Bits01 l.reverse := fun y hy => h01 y (List.mem_append.2 (.inl hy))
    rw [numF_append, List.length_append, List.length_singleton]
    by_cases hi : i < l.reverse.length
    · rw [List.getElem?_append_left hi] at h
      have ih := bits_num_rev l h01' i b h
      have e : l.reverse.length + 1 - 1 - i = (l.reverse.length - 1 - i) + 1 := by omega
      have e2 : 2 ^ ((l.reverse.length - 1 - i) + 1) = 2 * 2 ^ (l.reverse.length - 1 - i) := by rw [Nat.pow_succ, Nat.mul_comm]
      rw [e, e2, ← Nat.div_div_eq_div_mul, show (2 * numF 0 l.reverse + x) / 2 = numF 0 l.reverse by omega]
      exact ih
    · have hl : i < (l.reverse ++ [x]).length := (List.getElem?_eq_some_iff.1 h).1
      rw [List.length_append, List.length_singleton] at hl
      have hie : i = l.reverse.length := by omega
      subst hie
      rw [List.getElem?_append_right (Nat.le_refl _), Nat.sub_self] at h
      simp at h
      subst h
      rw [show l.reverse.length + 1 - 1 - l.reverse.length = 0 by omega, Nat.pow_zero, Nat.div_one]
      omega
theorem bits_num {l : List Nat} (h01 : Bits01 l) : bitsOf false l.length (numF 0 l) = l := by
  have key : ∀ i b, l[i]? = some b → numF 0 l / 2 ^ (l.length - 1 - i) % 2 = b := by
    have h := bits_num_rev l.reverse
    rw [List.reverse_reverse] at h
    exact h h01
  apply List.ext_getElem?
  intro i
  by_cases hi : i < l.length
  · rw [bitsOf_at hi, List.getElem?_eq_getElem hi]
    congr 1
    unfold bitAt
    rw [if_neg (by decide)]
    exact key i _ (List.getElem?_eq_getElem hi)
  · rw [List.getElem?_eq_none (by rw [bitsOf_len]; omega), List.getElem?_eq_none (by omega)]
/-- A number with its bits the other way round. -/
def turnedN (n v : Nat) : Nat := numF 0 (bitsOf true n v)
theorem turned_bits (n v : Nat) : bitsOf false n (turnedN n v) = bitsOf true n v := by
  have h := bits_num (bitsOf_01 true n v)
  rw [bitsOf_len] at h
  exact h
theorem turned_lt (n v : Nat) : turnedN n v < 2 ^ n := by
  have := numF_le (bitsOf true n v) 0 (bitsOf_01 true n v)
  rw [bitsOf_len] at this
  unfold turnedN
  omega
/-- How many numbers differ, of the first n. -/
def diff (xs ys : List Int) (n : Nat) : Nat := (List.range n).countP (fun i => decide (xs.getD i 1024 ≠ ys.getD i 1024))
theorem diff_succ (xs ys : List Int) (n : Nat) : diff xs ys (n + 1) = diff xs ys n + (if xs.getD n 1024 ≠ ys.getD n 1024 then 1 else 0) := by
  unfold diff
  rw [List.range_succ, List.countP_append]
  simp [List.countP_cons]
theorem diff_tri (xs ys zs : List Int) : ∀ n, diff xs zs n ≤ diff xs ys n + diff ys zs n
  | 0 => Nat.zero_le _
  | n + 1 => by
    rw [diff_succ, diff_succ, diff_succ]
    have := diff_tri xs ys zs n
    by_cases h1 : xs.getD n 1024 ≠ ys.getD n 1024
    · rw [if_pos h1]; split <;> split <;> omega
    · rw [if_neg h1]
      have h1' : xs.getD n 1024 = ys.getD n 1024 := Classical.not_not.1 h1
      rw [h1']
      omega
theorem diff_self (xs : List Int) : ∀ n, diff xs xs n = 0
  | 0 => rfl
  | n + 1 => by rw [diff_succ, diff_self xs n]; simp
theorem diff_one {xs ys : List Int} {j : Nat} (h : ∀ i, i ≠ j → xs.getD i 1024 = ys.getD i 1024) : ∀ n, diff xs ys n ≤ if j < n then 1 else 0
  | 0 => Nat.zero_le _
  | n + 1 => by
    rw [diff_succ]
    have ih := diff_one h n
    by_cases hn : n = j
    · subst hn
      have h0 : diff xs ys n ≤ 0 := by simpa using ih
      rw [if_pos (Nat.lt_succ_self n)]
      by_cases hh : xs.getD n 1024 ≠ ys.getD n 1024
      · rw [if_pos hh]; omega
      · rw [if_neg hh]; omega
    · rw [if_neg (fun f => f (h n hn))]
      by_cases hj : j < n
      · rw [if_pos hj] at ih
        rw [if_pos (by omega)]
        omega
      · rw [if_neg hj] at ih
        omega
theorem diff_way (p : Nat) : ∀ (l : List Nat) (m : Nat) (e : Rc.E) (xs : List Int) (n : Nat), Bits01 l → (∀ q ∈ wayQ p m l, q.ok xs.length) → diff xs (encL (wayQ p m l) e xs).2 n ≤ l.length
  | [], m, e, xs, n, _, _ => by show diff xs xs n ≤ 0; rw [diff_self]; exact Nat.le_refl _
  | b :: l, m, e, xs, n, h01, hq => by
    have hb : b ≤ 1 := h01 b (List.mem_cons_self ..)
    have hok := hq _ (List.mem_cons_self ..)
    have hj : p + m < xs.length := by
      unfold Q.ok at hok
      rw [if_neg (fun f => by cases f)] at hok
      simp only at hok
      omega
    show diff xs (encL (_ :: _) e xs).2 n ≤ _
    rw [encL, if_pos hok]
    have h1 := diff_way p l (2 * m + b) (encE ⟨false, ((p + m : Nat) : Int), 0, b⟩ e xs) (encX ⟨false, ((p + m : Nat) : Int), 0, b⟩ xs) n (fun x hx => h01 x (List.mem_cons_of_mem _ hx)) (fun q h => by rw [encX_len]; exact hq q (List.mem_cons_of_mem _ h))
    have h2 := diff_one (xs := xs) (ys := encX ⟨false, ((p + m : Nat) : Int), 0, b⟩ xs) (j := p + m) (fun i hi => by rw [encX_bit_at hj hb, if_neg hi]) n
    have h3 := diff_tri xs (encX ⟨false, ((p + m : Nat) : Int), 0, b⟩ xs) (encL (wayQ p (2 * m + b) l) (encE ⟨false, ((p + m : Nat) : Int), 0, b⟩ e xs) (encX ⟨false, ((p + m : Nat) : Int), 0, b⟩ xs)).2 n
    simp only [List.length_cons]
    split at h2 <;> omega

theorem and_1 (n : Int) : bits .and .i64 n 1 = n % 2 := by
  have h1 : (BitVec.ofInt 64 1).toNat = 2 ^ 1 - 1 := by decide
  have key : (BitVec.ofInt 64 n &&& BitVec.ofInt 64 1).toNat = (n % ((2 ^ 64 : Nat) : Int)).toNat % 2 ^ 1 := by
    rw [BitVec.toNat_and, BitVec.toNat_ofInt, h1, Nat.and_two_pow_sub_one_eq_mod]
  show IntKind.i64.wrap ((BitVec.ofInt 64 n &&& BitVec.ofInt 64 1).toNat : Nat) = n % 2
  rw [key, IntKind.wrap_i64]
  omega
set_option maxHeartbeats 1000000 in
set_option maxRecDepth 100000 in
theorem turned_any (n v y : Nat) (hn : n ≤ 16) (hv : v ≤ 65535) (hy : y = turnedN n v) (w : World) : Calls Try.prog 18 #[.int .i64 (n : Int), .int .i64 (v : Int)] w fun e w' => e = .returned (.int .i64 (y : Int)) ∧ w = w' := by
  have HY : Hid (y = turnedN n v) := hy
  clear hy
  go_enter Try.func18, Try.ntmps18
  go_wp2_with fail
  go_loopw [5, 6] (fun rv iv wr => ∃ k r : Nat, k ≤ n ∧ Hid (r = numF 0 ((bitsOf true n v).take k)) ∧ rv = .int .i64 (r : Int) ∧ iv = .int .i64 (k : Int) ∧ Hid (wr = w)) (fun _ iv _ => n - (intOf iv).toNat)
  case atStart => exact ⟨0, 0, Nat.zero_le _, rfl, rfl, rfl, rfl⟩
  case round =>
    obtain ⟨k, r, hk, HR, rfl, rfl, HW⟩ := hrel
    have hr : r ≤ 65535 := by
      have h9 := numO_le false (l := (bitsOf true n v).take k) (fun x hx => bitsOf_01 true n v x (List.mem_of_mem_take hx)) (by rw [List.length_take]; omega)
      have := HR.out
      unfold numO at h9
      simp only [Bool.false_eq_true, if_false] at h9
      omega
    by_cases hlt : k < n
    · obtain ⟨q, hq⟩ : ∃ q : Nat, q = v / 2 ^ k := ⟨_, rfl⟩
      obtain ⟨b, hb⟩ : ∃ b : Nat, b = q % 2 := ⟨_, rfl⟩
      have hqi : (v : Int) / 2 ^ k = (q : Int) := by rw [hq]; simp
      have hqv : q ≤ v := by rw [hq]; exact Nat.div_le_self _ _
      have hand : bits .and .i64 (q : Int) 1 = (b : Int) := by
        rw [and_1, hb]
        omega
      have HN : Hid (2 * r + b = numF 0 ((bitsOf true n v).take (k + 1))) := by
        show _ = _
        rw [List.take_add_one, bitsOf_at hlt]
        simp only [Option.toList_some]
        rw [numF_append, ← HR.out]
        unfold bitAt
        rw [if_pos rfl, hb, hq]
      have hm1 : IntKind.i64.wrap (2 * (r : Int)) = 2 * (r : Int) := wr64 (by omega) (by omega)
      have hb1 : (b : Int) ≤ 1 := by omega
      have hk63 : (k : Int) < 64 := by omega
      clear hq hb
      go_wp2_with fail
      go_roundw
      case rel => exact ⟨k + 1, 2 * r + b, by omega, HN.out, by go_num, by go_num, HW.out⟩
      case measure => simp [intOf]; omega
    · have hkn : n = k := by omega
      subst hkn
      have hd : decide ((n : Int) < (n : Int)) = false := by simp
      have hry : r = y := by rw [HR.out, HY.out, List.take_of_length_le (by rw [bitsOf_len]; exact Nat.le_refl _)]; rfl
      subst hry
      go_wp2
      go_ret
      exact ⟨rfl, HW.out.symm⟩
end Go.Proofs.Ytibgjpifmpljkaa
