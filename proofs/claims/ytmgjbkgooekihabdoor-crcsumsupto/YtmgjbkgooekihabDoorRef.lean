/- The document's own answers: the contracts of poly, ones, put, More, one, times, zeros, Join; of no statement by themselves. -/
import Derived.Test.YtmgjbkgooekihabDoorRoom
namespace Go.Proofs.YtmgjbkgooekihabDoor
open Go.RowKit

theorem stp_odd (P q : Nat) (h : q % 2 = 1) : q / 2 ^^^ P = Crc.stp P q := by rw [Crc.stp, if_pos h]
theorem stp_flat (P q : Nat) (h : ¬ q % 2 = 1) : q / 2 = Crc.stp P q := by rw [Crc.stp, if_neg h, Nat.xor_zero]

theorem tms_one (P W a b j : Nat) (h : a / 2 ^ (W - 1 - j) % 2 = 1) : Crc.tms P W a b j ^^^ Crc.itr P j b = Crc.tms P W a b (j + 1) := by
  have e : a.testBit (W - 1 - j) = true := by rw [Nat.testBit_eq_decide_div_mod_eq]; exact decide_eq_true h
  rw [Crc.tms, e, if_pos rfl]
theorem tms_flat (P W a b j : Nat) (h : ¬ a / 2 ^ (W - 1 - j) % 2 = 1) : Crc.tms P W a b j = Crc.tms P W a b (j + 1) := by
  have e : a.testBit (W - 1 - j) = false := by rw [Nat.testBit_eq_decide_div_mod_eq]; exact decide_eq_false h
  rw [Crc.tms, e]
  simp

theorem tms_lt {P w : Nat} (hP : P < 2 ^ w) (a b : Nat) (hb : b < 2 ^ w) : ∀ k, Crc.tms P w a b k < 2 ^ w
  | 0 => Nat.two_pow_pos w
  | k + 1 => by
    rw [Crc.tms]
    refine Nat.xor_lt_two_pow (tms_lt hP a b hb k) ?_
    split
    · exact Crc.itr_lt hP k hb
    · exact Nat.two_pow_pos w

theorem xor64' {a b : Nat} (ha : a < 18446744073709551616) (hb : b < 18446744073709551616) : bits .xor .u64 (a : Int) (b : Int) = ((a ^^^ b : Nat) : Int) := xor64 a b ha hb

theorem le32 {a : Nat} (h : a < 4294967296) : a < 18446744073709551616 := Nat.lt_of_lt_of_le h (by decide)

theorem poly32 (w : World) : Calls Tryd.prog 37 #[.int .i64 32] w fun e w' => e = .returned (.int .u64 (Crc.P32 : Nat)) ∧ w = w' := by
  go_enter Tryd.func37, Tryd.ntmps37
  go_wp2
  go_ret
  exact ⟨rfl, rfl⟩

theorem ones32 (w : World) : Calls Tryd.prog 24 #[.int .i64 32] w fun e w' => e = .returned (.int .u64 4294967295) ∧ w = w' := by
  go_enter Tryd.func24, Tryd.ntmps24
  go_wp2
  go_loop [3, 4] (fun z i => ∃ k p : Nat, k ≤ 32 ∧ Hid (p + 1 = 2 ^ k) ∧ i = .int .i64 k ∧ z = .int .u64 p) (fun _ i => 32 - (intOf i).toNat)
  case atStart => exact ⟨0, 0, by omega, rfl, rfl, rfl⟩
  case round =>
    obtain ⟨k, p, hk, HP, rfl, rfl⟩ := hrel
    by_cases hlt : k < 32
    · have h1 : 2 ^ k ≤ 2 ^ 31 := Nat.pow_le_pow_right (by decide) (by omega)
      have hp : p + 1 ≤ 2147483648 := by have := HP.out; omega
      have HP2 : Hid (2 * p + 1 + 1 = 2 ^ (k + 1)) := by
        show _ = _
        rw [Nat.pow_succ, ← HP.out]
        omega
      clear h1
      go_wp2
      go_round
      case rel => exact ⟨k + 1, 2 * p + 1, by omega, HP2, by go_num, by go_num⟩
      case measure => simp [intOf]; omega
    · obtain rfl : k = 32 := by omega
      have hp : p = 4294967295 := by have := HP.out; omega
      subst hp
      go_wp2
      go_ret
      exact ⟨rfl, rfl⟩

theorem refone32 (w : World) : Calls Tryd.prog 32 #[.int .i64 32] w fun e w' => e = .returned (.int .u64 2147483648) ∧ w = w' := by
  go_enter Tryd.func32, Tryd.ntmps32
  go_wp2_with fail
  refine (ones32 w).mono ?_
  rintro e w1 ⟨rfl, rfl⟩
  go_wp2_with fail
  refine (ones32 w).mono ?_
  rintro e w1 ⟨rfl, rfl⟩
  go_wp2
  go_ret
  exact ⟨rfl, rfl⟩

theorem refput32 (s x : Nat) (w : World) (hs : s < 4294967296) (hx : x < 256) :
    Calls Tryd.prog 25 #[.int .u64 s, .int .u8 x, .int .i64 32] w fun e w' => e = .returned (.int .u64 (Crc.put Crc.P32 s x : Nat)) ∧ w = w' := by
  have hxx : x < 4294967296 := by omega
  have h1 := xor64 s x (le32 hs) (by omega)
  have ha : s ^^^ x < 4294967296 := Nat.xor_lt_two_pow (n := 32) hs hxx
  have HR : Hid (Crc.put Crc.P32 s x = Crc.itr Crc.P32 8 (s ^^^ x)) := rfl
  generalize s ^^^ x = a at *
  go_enter Tryd.func25, Tryd.ntmps25
  go_wp2
  go_loop [0, 7] (fun z i => ∃ k : Nat, k ≤ 8 ∧ i = .int .i64 k ∧ z = .int .u64 (Crc.itr Crc.P32 k a : Nat)) (fun _ i => 8 - (intOf i).toNat)
  case atStart => exact ⟨0, by omega, rfl, rfl⟩
  case round =>
    clear h1
    obtain ⟨k, hk, rfl, rfl⟩ := hrel
    have hq : Crc.itr Crc.P32 k a < 4294967296 := Crc.itr_lt (w := 32) Crc.p32_lt k ha
    by_cases hlt : k < 8
    · have HS : Hid (Crc.stp Crc.P32 (Crc.itr Crc.P32 k a) = Crc.itr Crc.P32 (k + 1) a) := (Crc.itr_succ _ _ _).symm
      generalize Crc.itr Crc.P32 k a = q at *
      by_cases ho : q % 2 = 1
      · have hx2 : bits .xor .u64 ((q : Int) / 2) ((Crc.P32 : Nat) : Int) = ((Crc.stp Crc.P32 q : Nat) : Int) := by
          have e : (q : Int) / 2 = ((q / 2 : Nat) : Int) := by omega
          rw [e, xor64 _ _ (le32 (by omega)) (le32 Crc.p32_lt), stp_odd _ _ ho]
        generalize Crc.stp Crc.P32 q = t at *
        go_wp2_with fail
        refine (poly32 w).mono ?_
        rintro e w1 ⟨rfl, rfl⟩
        go_wp2
        go_round
        case rel => exact ⟨k + 1, by omega, by go_num, by rw [← HS.out]⟩
        case measure => simp [intOf]; omega
      · have HF : Hid (q / 2 = Crc.stp Crc.P32 q) := stp_flat _ _ ho
        go_wp2
        go_round
        case rel => exact ⟨k + 1, by omega, by go_num, by rw [← HS.out, ← HF.out]; go_num⟩
        case measure => simp [intOf]; omega
    · obtain rfl : k = 8 := by omega
      go_wp2
      go_ret
      exact ⟨by rw [HR.out]; rfl, rfl⟩

theorem reftimes32 (a b : Nat) (w : World) (hb : b < 4294967296) :
    Calls Tryd.prog 33 #[.int .u64 a, .int .u64 b, .int .i64 32] w fun e w' => e = .returned (.int .u64 (Crc.tim Crc.P32 32 a b : Nat)) ∧ w = w' := by
  have HR : Hid (Crc.tim Crc.P32 32 a b = Crc.tms Crc.P32 32 a b 32) := rfl
  go_enter Tryd.func33, Tryd.ntmps33
  go_wp2
  go_loop [1, 7, 8] (fun q r i => ∃ j : Nat, j ≤ 32 ∧ i = .int .i64 (31 - j) ∧ q = .int .u64 (Crc.itr Crc.P32 j b : Nat) ∧ r = .int .u64 (Crc.tms Crc.P32 32 a b j : Nat)) (fun _ _ i => (intOf i + 1).toNat)
  case atStart => exact ⟨0, by omega, rfl, rfl, rfl⟩
  case round =>
    obtain ⟨j, hj, rfl, rfl, rfl⟩ := hrel
    have hq : Crc.itr Crc.P32 j b < 4294967296 := Crc.itr_lt (w := 32) Crc.p32_lt j hb
    have hr : Crc.tms Crc.P32 32 a b j < 4294967296 := tms_lt (w := 32) Crc.p32_lt a b hb j
    by_cases hlt : j < 32
    · obtain ⟨i, hi⟩ : ∃ i : Nat, 32 - 1 - j = i := ⟨_, rfl⟩
      have hii : (31 - (j : Int)) = (i : Int) := by omega
      have hij : i ≤ 31 := by omega
      rw [hii]
      have HS : Hid (Crc.stp Crc.P32 (Crc.itr Crc.P32 j b) = Crc.itr Crc.P32 (j + 1) b) := (Crc.itr_succ _ _ _).symm
      have HJ : Hid ((i : Int) - 1 = 31 - ((j + 1 : Nat) : Int)) := by show _ = _; omega
      have hd : ((a : Int) / 2 ^ i) = ((a / 2 ^ i : Nat) : Int) := by simp
      have h1 := fun h => tms_one Crc.P32 32 a b j (by rw [hi]; exact h)
      have h2 := fun h => tms_flat Crc.P32 32 a b j (by rw [hi]; exact h)
      have HLT : Hid (j < 32) := hlt
      clear hi hii hj hlt
      have hqx := xor64 _ _ (le32 hr) (le32 hq)
      generalize Crc.itr Crc.P32 j b = q at *
      generalize Crc.tms Crc.P32 32 a b j = r at *
      generalize a / 2 ^ i = m at *
      by_cases ho : q % 2 = 1
      · have hx2 : bits .xor .u64 ((q : Int) / 2) ((Crc.P32 : Nat) : Int) = ((Crc.stp Crc.P32 q : Nat) : Int) := by
          have e : (q : Int) / 2 = ((q / 2 : Nat) : Int) := by omega
          rw [e, xor64 _ _ (le32 (by omega)) (le32 Crc.p32_lt), stp_odd _ _ ho]
        generalize Crc.stp Crc.P32 q = t at *
        by_cases hm : m % 2 = 1
        · have H1 : Hid (r ^^^ q = Crc.tms Crc.P32 32 a b (j + 1)) := h1 hm
          clear h1 h2
          generalize r ^^^ q = u at *
          go_wp2_with fail
          refine (poly32 w).mono ?_
          rintro e w1 ⟨rfl, rfl⟩
          go_wp2
          go_round
          case rel => exact ⟨j + 1, HLT.out, by rw [HJ.out], by rw [HS.out], by rw [H1.out]⟩
          case measure => simp [intOf]; try omega
        · have H2 : Hid (r = Crc.tms Crc.P32 32 a b (j + 1)) := h2 hm
          clear h1 h2 hqx
          go_wp2_with fail
          refine (poly32 w).mono ?_
          rintro e w1 ⟨rfl, rfl⟩
          go_wp2
          go_round
          case rel => exact ⟨j + 1, HLT.out, by rw [HJ.out], by rw [HS.out], by rw [H2.out]⟩
          case measure => simp [intOf]; try omega
      · have HF : Hid (q / 2 = Crc.stp Crc.P32 q) := stp_flat _ _ ho
        by_cases hm : m % 2 = 1
        · have H1 : Hid (r ^^^ q = Crc.tms Crc.P32 32 a b (j + 1)) := h1 hm
          clear h1 h2
          generalize r ^^^ q = u at *
          go_wp2
          go_round
          case rel => exact ⟨j + 1, HLT.out, by rw [HJ.out], by rw [← HS.out, ← HF.out]; go_num, by rw [H1.out]⟩
          case measure => simp [intOf]; try omega
        · have H2 : Hid (r = Crc.tms Crc.P32 32 a b (j + 1)) := h2 hm
          clear h1 h2 hqx
          go_wp2
          go_round
          case rel => exact ⟨j + 1, HLT.out, by rw [HJ.out], by rw [← HS.out, ← HF.out]; go_num, by rw [H2.out]⟩
          case measure => simp [intOf]; try omega
    · obtain rfl : j = 32 := by omega
      go_wp2
      go_ret
      exact ⟨by rw [HR.out]; rfl, rfl⟩
theorem le64 {a : Nat} (h : a < 18446744073709551616) : a < 18446744073709551616 := Nat.lt_of_lt_of_le h (by decide)

theorem poly64 (w : World) : Calls Tryd.prog 37 #[.int .i64 64] w fun e w' => e = .returned (.int .u64 (Crc.P64 : Nat)) ∧ w = w' := by
  go_enter Tryd.func37, Tryd.ntmps37
  go_wp2
  go_ret
  exact ⟨rfl, rfl⟩

theorem ones64 (w : World) : Calls Tryd.prog 24 #[.int .i64 64] w fun e w' => e = .returned (.int .u64 18446744073709551615) ∧ w = w' := by
  go_enter Tryd.func24, Tryd.ntmps24
  go_wp2
  go_loop [3, 4] (fun z i => ∃ k p : Nat, k ≤ 64 ∧ Hid (p + 1 = 2 ^ k) ∧ i = .int .i64 k ∧ z = .int .u64 p) (fun _ i => 64 - (intOf i).toNat)
  case atStart => exact ⟨0, 0, by omega, rfl, rfl, rfl⟩
  case round =>
    obtain ⟨k, p, hk, HP, rfl, rfl⟩ := hrel
    by_cases hlt : k < 64
    · have h1 : 2 ^ k ≤ 2 ^ 63 := Nat.pow_le_pow_right (by decide) (by omega)
      have hp : p + 1 ≤ 9223372036854775808 := by have := HP.out; omega
      have HP2 : Hid (2 * p + 1 + 1 = 2 ^ (k + 1)) := by
        show _ = _
        rw [Nat.pow_succ, ← HP.out]
        omega
      clear h1
      go_wp2
      go_round
      case rel => exact ⟨k + 1, 2 * p + 1, by omega, HP2, by go_num, by go_num⟩
      case measure => simp [intOf]; omega
    · obtain rfl : k = 64 := by omega
      have hp : p = 18446744073709551615 := by have := HP.out; omega
      subst hp
      go_wp2
      go_ret
      exact ⟨rfl, rfl⟩

theorem refone64 (w : World) : Calls Tryd.prog 32 #[.int .i64 64] w fun e w' => e = .returned (.int .u64 9223372036854775808) ∧ w = w' := by
  go_enter Tryd.func32, Tryd.ntmps32
  go_wp2_with fail
  refine (ones64 w).mono ?_
  rintro e w1 ⟨rfl, rfl⟩
  go_wp2_with fail
  refine (ones64 w).mono ?_
  rintro e w1 ⟨rfl, rfl⟩
  go_wp2
  go_ret
  exact ⟨rfl, rfl⟩

theorem refput64 (s x : Nat) (w : World) (hs : s < 18446744073709551616) (hx : x < 256) :
    Calls Tryd.prog 25 #[.int .u64 s, .int .u8 x, .int .i64 64] w fun e w' => e = .returned (.int .u64 (Crc.put Crc.P64 s x : Nat)) ∧ w = w' := by
  have hxx : x < 18446744073709551616 := by omega
  have h1 := xor64 s x (le64 hs) (by omega)
  have ha : s ^^^ x < 18446744073709551616 := Nat.xor_lt_two_pow (n := 64) hs hxx
  have HR : Hid (Crc.put Crc.P64 s x = Crc.itr Crc.P64 8 (s ^^^ x)) := rfl
  generalize s ^^^ x = a at *
  go_enter Tryd.func25, Tryd.ntmps25
  go_wp2
  go_loop [0, 7] (fun z i => ∃ k : Nat, k ≤ 8 ∧ i = .int .i64 k ∧ z = .int .u64 (Crc.itr Crc.P64 k a : Nat)) (fun _ i => 8 - (intOf i).toNat)
  case atStart => exact ⟨0, by omega, rfl, rfl⟩
  case round =>
    clear h1
    obtain ⟨k, hk, rfl, rfl⟩ := hrel
    have hq : Crc.itr Crc.P64 k a < 18446744073709551616 := Crc.itr_lt (w := 64) Crc.p64_lt k ha
    by_cases hlt : k < 8
    · have HS : Hid (Crc.stp Crc.P64 (Crc.itr Crc.P64 k a) = Crc.itr Crc.P64 (k + 1) a) := (Crc.itr_succ _ _ _).symm
      generalize Crc.itr Crc.P64 k a = q at *
      by_cases ho : q % 2 = 1
      · have hx2 : bits .xor .u64 ((q : Int) / 2) ((Crc.P64 : Nat) : Int) = ((Crc.stp Crc.P64 q : Nat) : Int) := by
          have e : (q : Int) / 2 = ((q / 2 : Nat) : Int) := by omega
          rw [e, xor64 _ _ (le64 (by omega)) (le64 Crc.p64_lt), stp_odd _ _ ho]
        generalize Crc.stp Crc.P64 q = t at *
        go_wp2_with fail
        refine (poly64 w).mono ?_
        rintro e w1 ⟨rfl, rfl⟩
        go_wp2
        go_round
        case rel => exact ⟨k + 1, by omega, by go_num, by rw [← HS.out]⟩
        case measure => simp [intOf]; omega
      · have HF : Hid (q / 2 = Crc.stp Crc.P64 q) := stp_flat _ _ ho
        go_wp2
        go_round
        case rel => exact ⟨k + 1, by omega, by go_num, by rw [← HS.out, ← HF.out]; go_num⟩
        case measure => simp [intOf]; omega
    · obtain rfl : k = 8 := by omega
      go_wp2
      go_ret
      exact ⟨by rw [HR.out]; rfl, rfl⟩

theorem reftimes64 (a b : Nat) (w : World) (hb : b < 18446744073709551616) :
    Calls Tryd.prog 33 #[.int .u64 a, .int .u64 b, .int .i64 64] w fun e w' => e = .returned (.int .u64 (Crc.tim Crc.P64 64 a b : Nat)) ∧ w = w' := by
  have HR : Hid (Crc.tim Crc.P64 64 a b = Crc.tms Crc.P64 64 a b 64) := rfl
  go_enter Tryd.func33, Tryd.ntmps33
  go_wp2
  go_loop [1, 7, 8] (fun q r i => ∃ j : Nat, j ≤ 64 ∧ i = .int .i64 (63 - j) ∧ q = .int .u64 (Crc.itr Crc.P64 j b : Nat) ∧ r = .int .u64 (Crc.tms Crc.P64 64 a b j : Nat)) (fun _ _ i => (intOf i + 1).toNat)
  case atStart => exact ⟨0, by omega, rfl, rfl, rfl⟩
  case round =>
    obtain ⟨j, hj, rfl, rfl, rfl⟩ := hrel
    have hq : Crc.itr Crc.P64 j b < 18446744073709551616 := Crc.itr_lt (w := 64) Crc.p64_lt j hb
    have hr : Crc.tms Crc.P64 64 a b j < 18446744073709551616 := tms_lt (w := 64) Crc.p64_lt a b hb j
    by_cases hlt : j < 64
    · obtain ⟨i, hi⟩ : ∃ i : Nat, 64 - 1 - j = i := ⟨_, rfl⟩
      have hii : (63 - (j : Int)) = (i : Int) := by omega
      have hij : i ≤ 63 := by omega
      rw [hii]
      have HS : Hid (Crc.stp Crc.P64 (Crc.itr Crc.P64 j b) = Crc.itr Crc.P64 (j + 1) b) := (Crc.itr_succ _ _ _).symm
      have HJ : Hid ((i : Int) - 1 = 63 - ((j + 1 : Nat) : Int)) := by show _ = _; omega
      have hd : ((a : Int) / 2 ^ i) = ((a / 2 ^ i : Nat) : Int) := by simp
      have h1 := fun h => tms_one Crc.P64 64 a b j (by rw [hi]; exact h)
      have h2 := fun h => tms_flat Crc.P64 64 a b j (by rw [hi]; exact h)
      have HLT : Hid (j < 64) := hlt
      clear hi hii hj hlt
      have hqx := xor64 _ _ (le64 hr) (le64 hq)
      generalize Crc.itr Crc.P64 j b = q at *
      generalize Crc.tms Crc.P64 64 a b j = r at *
      generalize a / 2 ^ i = m at *
      by_cases ho : q % 2 = 1
      · have hx2 : bits .xor .u64 ((q : Int) / 2) ((Crc.P64 : Nat) : Int) = ((Crc.stp Crc.P64 q : Nat) : Int) := by
          have e : (q : Int) / 2 = ((q / 2 : Nat) : Int) := by omega
          rw [e, xor64 _ _ (le64 (by omega)) (le64 Crc.p64_lt), stp_odd _ _ ho]
        generalize Crc.stp Crc.P64 q = t at *
        by_cases hm : m % 2 = 1
        · have H1 : Hid (r ^^^ q = Crc.tms Crc.P64 64 a b (j + 1)) := h1 hm
          clear h1 h2
          generalize r ^^^ q = u at *
          go_wp2_with fail
          refine (poly64 w).mono ?_
          rintro e w1 ⟨rfl, rfl⟩
          go_wp2
          go_round
          case rel => exact ⟨j + 1, HLT.out, by rw [HJ.out], by rw [HS.out], by rw [H1.out]⟩
          case measure => simp [intOf]; try omega
        · have H2 : Hid (r = Crc.tms Crc.P64 64 a b (j + 1)) := h2 hm
          clear h1 h2 hqx
          go_wp2_with fail
          refine (poly64 w).mono ?_
          rintro e w1 ⟨rfl, rfl⟩
          go_wp2
          go_round
          case rel => exact ⟨j + 1, HLT.out, by rw [HJ.out], by rw [HS.out], by rw [H2.out]⟩
          case measure => simp [intOf]; try omega
      · have HF : Hid (q / 2 = Crc.stp Crc.P64 q) := stp_flat _ _ ho
        by_cases hm : m % 2 = 1
        · have H1 : Hid (r ^^^ q = Crc.tms Crc.P64 64 a b (j + 1)) := h1 hm
          clear h1 h2
          generalize r ^^^ q = u at *
          go_wp2
          go_round
          case rel => exact ⟨j + 1, HLT.out, by rw [HJ.out], by rw [← HS.out, ← HF.out]; go_num, by rw [H1.out]⟩
          case measure => simp [intOf]; try omega
        · have H2 : Hid (r = Crc.tms Crc.P64 64 a b (j + 1)) := h2 hm
          clear h1 h2 hqx
          go_wp2
          go_round
          case rel => exact ⟨j + 1, HLT.out, by rw [HJ.out], by rw [← HS.out, ← HF.out]; go_num, by rw [H2.out]⟩
          case measure => simp [intOf]; try omega
    · obtain rfl : j = 64 := by omega
      go_wp2
      go_ret
      exact ⟨by rw [HR.out]; rfl, rfl⟩
end Go.Proofs.YtmgjbkgooekihabDoor
