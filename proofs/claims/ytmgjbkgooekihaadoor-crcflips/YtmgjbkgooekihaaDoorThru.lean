/- What the zeros of an array make of a number: the contracts of through32, through64, twice32, twice64; of no statement by themselves. -/
import Derived.Test.YtmgjbkgooekihaaDoorZero
namespace Go.Proofs.YtmgjbkgooekihaaDoor
open Go.RowKit

theorem through32_any (z s : Nat) (w : World) (hs : s < 4294967296) :
    Calls Tryd.prog 33 #[.agg (ar32 (fun i => Crc.itr Crc.P32 z (2 ^ i))).toArray, .int .u32 s] w fun e w' => e = .returned (.int .u32 (Crc.itr Crc.P32 z s : Nat)) ∧ Chg (fun _ => False) w w' := by
  have HA : Hid (∀ k, k < 32 → (w.alloc (.cells (ar32 (fun i => Crc.itr Crc.P32 z (2 ^ i))).toArray 63)).cell? ⟨w.heap.size, k, none⟩ = some (.int .u32 (Crc.itr Crc.P32 z (2 ^ k) : Nat))) :=
    fun k hk => ar32_cell (heap_alloc_last w _) k hk
  have HC : Hid (Chg (fun _ => False) w (w.alloc (.cells (ar32 (fun i => Crc.itr Crc.P32 z (2 ^ i))).toArray 63))) := (Chg.refl _ w).alloc _
  generalize (ar32 (fun i => Crc.itr Crc.P32 z (2 ^ i))).toArray = A at *
  go_enter Tryd.func33, Tryd.ntmps33
  go_wp2
  generalize w.alloc (.cells A 63) = w1 at *
  go_loop [1, 5, 6] (fun q r i => ∃ k : Nat, k ≤ 32 ∧ i = .int .i64 k ∧ q = .int .u32 (s / 2 ^ k : Nat) ∧ r = .int .u32 (Crc.itr Crc.P32 z (s % 2 ^ k) : Nat)) (fun _ _ i => 32 - (intOf i).toNat)
  case atStart => exact ⟨0, by omega, rfl, by simp, by simp [Nat.mod_one, Crc.itr_zero]⟩
  case round =>
    obtain ⟨k, hk, rfl, rfl, rfl⟩ := hrel
    have hr : Crc.itr Crc.P32 z (s % 2 ^ k) < 4294967296 := Crc.itr_lt (w := 32) Crc.p32_lt z (Nat.lt_of_le_of_lt (Nat.mod_le _ _) hs)
    have hql : s / 2 ^ k ≤ s := Nat.div_le_self _ _
    by_cases hq : s / 2 ^ k = 0
    · have HE : Hid (s % 2 ^ k = s) := Nat.mod_eq_of_lt (by
        rcases Nat.div_eq_zero_iff.1 hq with h | h
        · have := Nat.two_pow_pos k; omega
        · exact h)
      rw [HE.out, hq]
      go_wp2
      go_ret
      exact ⟨rfl, HC.out⟩
    · have hlt : k < 32 := by
        rcases Nat.lt_or_ge k 32 with h | h
        · exact h
        · obtain rfl : k = 32 := by omega
          exact absurd (Nat.div_eq_of_lt hs) hq
      have c1 := HA.out k hlt
      have hd : s / 2 ^ k / 2 = s / 2 ^ (k + 1) := by rw [Nat.pow_succ, Nat.div_div_eq_div_mul]
      have HD : Hid (s / 2 ^ k / 2 = s / 2 ^ (k + 1)) := hd
      clear hd
      by_cases hb : s / 2 ^ k % 2 = 1
      · have HB : Hid (Crc.itr Crc.P32 z (s % 2 ^ k) ^^^ Crc.itr Crc.P32 z (2 ^ k) = Crc.itr Crc.P32 z (s % 2 ^ (k + 1))) := Crc.itr_bit_one _ _ _ _ hb
        have hx := xor32 _ _ hr (Crc.itr_lt (w := 32) Crc.p32_lt z (pow32_lt hlt))
        generalize s / 2 ^ k = q at *
        generalize Crc.itr Crc.P32 z (s % 2 ^ k) = r at *
        generalize Crc.itr Crc.P32 z (2 ^ k) = y at *
        generalize r ^^^ y = t at *
        go_wp2
        go_round
        case rel => exact ⟨k + 1, by omega, by go_num, by rw [← HD.out]; go_num, by rw [HB.out]⟩
        case measure => simp [intOf]; omega
      · have HB : Hid (Crc.itr Crc.P32 z (s % 2 ^ k) = Crc.itr Crc.P32 z (s % 2 ^ (k + 1))) := Crc.itr_bit_zero _ _ _ _ hb
        generalize s / 2 ^ k = q at *
        generalize Crc.itr Crc.P32 z (s % 2 ^ k) = r at *
        generalize Crc.itr Crc.P32 z (2 ^ k) = y at *
        go_wp2
        go_round
        case rel => exact ⟨k + 1, by omega, by go_num, by rw [← HD.out]; go_num, by rw [HB.out]⟩
        case measure => simp [intOf]; omega

theorem idx32 (f : Nat → Nat) (k : Nat) (hk : k < 32) (w : World) : (Instr.index 63 (.agg (ar32 f).toArray) (.int .i64 k)).run Tryd.prog w = .ok (.int .u32 (f k : Nat)) w := by
  have hi : (Tryd.prog.info? 23).map (fun i => (i.zero, i.size, i.bytes)) = some (some (.int .u32 0), 1, 4) := by kernel_rfl
  obtain ⟨i0, hi0, -, hi1, -⟩ := info_parts hi
  have e := ar32_at f k hk
  simp [Instr.index, asIntOf, run_underlying Tryd.underlying63, run_underlying Tryd.underlying23, part, isAgg, sizeOf, typeInfo, hi0, hi1, Sem.run_bind, Result.andThen, hk, e]
theorem through64_any (z s : Nat) (w : World) (hs : s < 18446744073709551616) :
    Calls Tryd.prog 36 #[.agg (ar64 (fun i => Crc.itr Crc.P64 z (2 ^ i))).toArray, .int .u64 s] w fun e w' => e = .returned (.int .u64 (Crc.itr Crc.P64 z s : Nat)) ∧ Chg (fun _ => False) w w' := by
  have HA : Hid (∀ k, k < 64 → (w.alloc (.cells (ar64 (fun i => Crc.itr Crc.P64 z (2 ^ i))).toArray 68)).cell? ⟨w.heap.size, k, none⟩ = some (.int .u64 (Crc.itr Crc.P64 z (2 ^ k) : Nat))) :=
    fun k hk => ar64_cell (heap_alloc_last w _) k hk
  have HC : Hid (Chg (fun _ => False) w (w.alloc (.cells (ar64 (fun i => Crc.itr Crc.P64 z (2 ^ i))).toArray 68))) := (Chg.refl _ w).alloc _
  generalize (ar64 (fun i => Crc.itr Crc.P64 z (2 ^ i))).toArray = A at *
  go_enter Tryd.func36, Tryd.ntmps36
  go_wp2
  generalize w.alloc (.cells A 68) = w1 at *
  go_loop [1, 5, 6] (fun q r i => ∃ k : Nat, k ≤ 64 ∧ i = .int .i64 k ∧ q = .int .u64 (s / 2 ^ k : Nat) ∧ r = .int .u64 (Crc.itr Crc.P64 z (s % 2 ^ k) : Nat)) (fun _ _ i => 64 - (intOf i).toNat)
  case atStart => exact ⟨0, by omega, rfl, by simp, by simp [Nat.mod_one, Crc.itr_zero]⟩
  case round =>
    obtain ⟨k, hk, rfl, rfl, rfl⟩ := hrel
    have hr : Crc.itr Crc.P64 z (s % 2 ^ k) < 18446744073709551616 := Crc.itr_lt (w := 64) Crc.p64_lt z (Nat.lt_of_le_of_lt (Nat.mod_le _ _) hs)
    have hql : s / 2 ^ k ≤ s := Nat.div_le_self _ _
    by_cases hq : s / 2 ^ k = 0
    · have HE : Hid (s % 2 ^ k = s) := Nat.mod_eq_of_lt (by
        rcases Nat.div_eq_zero_iff.1 hq with h | h
        · have := Nat.two_pow_pos k; omega
        · exact h)
      rw [HE.out, hq]
      go_wp2
      go_ret
      exact ⟨rfl, HC.out⟩
    · have hlt : k < 64 := by
        rcases Nat.lt_or_ge k 64 with h | h
        · exact h
        · obtain rfl : k = 64 := by omega
          exact absurd (Nat.div_eq_of_lt hs) hq
      have c1 := HA.out k hlt
      have hd : s / 2 ^ k / 2 = s / 2 ^ (k + 1) := by rw [Nat.pow_succ, Nat.div_div_eq_div_mul]
      have HD : Hid (s / 2 ^ k / 2 = s / 2 ^ (k + 1)) := hd
      clear hd
      by_cases hb : s / 2 ^ k % 2 = 1
      · have HB : Hid (Crc.itr Crc.P64 z (s % 2 ^ k) ^^^ Crc.itr Crc.P64 z (2 ^ k) = Crc.itr Crc.P64 z (s % 2 ^ (k + 1))) := Crc.itr_bit_one _ _ _ _ hb
        have hx := xor64 _ _ hr (Crc.itr_lt (w := 64) Crc.p64_lt z (pow64_lt hlt))
        generalize s / 2 ^ k = q at *
        generalize Crc.itr Crc.P64 z (s % 2 ^ k) = r at *
        generalize Crc.itr Crc.P64 z (2 ^ k) = y at *
        generalize r ^^^ y = t at *
        go_wp2
        go_round
        case rel => exact ⟨k + 1, by omega, by go_num, by rw [← HD.out]; go_num, by rw [HB.out]⟩
        case measure => simp [intOf]; omega
      · have HB : Hid (Crc.itr Crc.P64 z (s % 2 ^ k) = Crc.itr Crc.P64 z (s % 2 ^ (k + 1))) := Crc.itr_bit_zero _ _ _ _ hb
        generalize s / 2 ^ k = q at *
        generalize Crc.itr Crc.P64 z (s % 2 ^ k) = r at *
        generalize Crc.itr Crc.P64 z (2 ^ k) = y at *
        go_wp2
        go_round
        case rel => exact ⟨k + 1, by omega, by go_num, by rw [← HD.out]; go_num, by rw [HB.out]⟩
        case measure => simp [intOf]; omega

theorem idx64 (f : Nat → Nat) (k : Nat) (hk : k < 64) (w : World) : (Instr.index 68 (.agg (ar64 f).toArray) (.int .i64 k)).run Tryd.prog w = .ok (.int .u64 (f k : Nat)) w := by
  have hi : (Tryd.prog.info? 25).map (fun i => (i.zero, i.size, i.bytes)) = some (some (.int .u64 0), 1, 8) := by kernel_rfl
  obtain ⟨i0, hi0, -, hi1, -⟩ := info_parts hi
  have e := ar64_at f k hk
  simp [Instr.index, asIntOf, run_underlying Tryd.underlying68, run_underlying Tryd.underlying25, part, isAgg, sizeOf, typeInfo, hi0, hi1, Sem.run_bind, Result.andThen, hk, e]
end Go.Proofs.YtmgjbkgooekihaaDoor
