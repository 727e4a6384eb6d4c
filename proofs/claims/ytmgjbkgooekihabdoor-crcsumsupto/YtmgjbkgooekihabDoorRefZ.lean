/- The document's own answers: the contracts of zeros, More, Join and Patch; of no statement by themselves. -/
import Derived.Test.YtmgjbkgooekihabDoorRef
namespace Go.Proofs.YtmgjbkgooekihabDoor
open Go.RowKit

theorem half_step (e k n m : Nat) (h : n % 2 = 1) (hm : e + k * n = m) : (e + k) + (k + k) * (n / 2) = m := by
  rw [← hm]
  have q : n = 2 * (n / 2) + 1 := by omega
  conv => rhs; rw [q]
  rw [Nat.mul_add, Nat.mul_one, ← Nat.mul_assoc, Nat.mul_two]
  omega

theorem half_flat (e k n m : Nat) (h : ¬ n % 2 = 1) (hm : e + k * n = m) : e + (k + k) * (n / 2) = m := by
  rw [← hm]
  have q : n = 2 * (n / 2) := by omega
  conv => rhs; rw [q]
  rw [← Nat.mul_assoc, Nat.mul_two]

theorem acts32 {m n a b : Nat} (ha : Crc.Acts Crc.P32 32 m a) (hb : Crc.Acts Crc.P32 32 n b) : Crc.Acts Crc.P32 32 (m + n) (Crc.tim Crc.P32 32 a b) :=
  Crc.Acts.mul (by decide) Crc.p32_one Crc.p32_itr Crc.p32_lt ha hb

set_option maxHeartbeats 1000000 in
theorem refzeros32 (s n : Nat) (w : World) (hs : s < 4294967296) (hn : n ≤ 140737488355328) :
    Calls Tryd.prog 22 #[.int .u64 s, .int .i64 n, .int .i64 32] w fun e w' => e = .returned (.int .u64 (Crc.itr Crc.P32 (8 * n) s : Nat)) ∧ w = w' := by
  have A0 : Crc.Acts Crc.P32 32 0 2147483648 := Crc.Acts.one Crc.P32 32 0 (by decide)
  have A8 : Crc.Acts Crc.P32 32 8 8388608 := Crc.Acts.one Crc.P32 32 8 (by decide)
  have HA : Hid (Crc.Acts Crc.P32 32 0 2147483648 ∧ Crc.Acts Crc.P32 32 8 8388608) := ⟨A0, A8⟩
  clear A0 A8
  go_enter Tryd.func22, Tryd.ntmps22
  go_wp2_with fail
  refine (refone32 w).mono ?_
  rintro e w1 ⟨rfl, rfl⟩
  go_wp2_with fail
  refine (refone32 w).mono ?_
  rintro e w1 ⟨rfl, rfl⟩
  go_wp2_with fail
  go_loop [1, 7, 8] (fun b p x => ∃ n' p' x' m k : Nat, b = .int .i64 n' ∧ p = .int .u64 p' ∧ x = .int .u64 x' ∧ n' ≤ 140737488355328 ∧ Hid (Crc.Acts Crc.P32 32 m p') ∧ Hid (Crc.Acts Crc.P32 32 k x') ∧ Hid (m + k * n' = 8 * n)) (fun b _ _ => (intOf b).toNat)
  case atStart => exact ⟨n, 2147483648, 8388608, 0, 8, rfl, rfl, rfl, hn, HA.out.1, HA.out.2, Nat.zero_add _⟩
  case round =>
    clear HA
    obtain ⟨n', p, x, m, k, rfl, rfl, rfl, hn', HP, HX, HE⟩ := hrel
    have hp := HP.out.1
    have hx := HX.out.1
    by_cases hpos : 0 < n'
    · have HX2 : Hid (Crc.Acts Crc.P32 32 (k + k) (Crc.tim Crc.P32 32 x x)) := acts32 HX.out HX.out
      by_cases ho : n' % 2 = 1
      · have HP2 : Hid (Crc.Acts Crc.P32 32 (m + k) (Crc.tim Crc.P32 32 p x)) := acts32 HP.out HX.out
        have HE2 : Hid ((m + k) + (k + k) * (n' / 2) = 8 * n) := half_step _ _ _ _ ho HE.out
        clear HE HP
        go_wp2_with fail
        refine (reftimes32 p x w hx).mono ?_
        rintro e w1 ⟨rfl, rfl⟩
        generalize Crc.tim Crc.P32 32 p x = p2 at *
        go_wp2_with fail
        refine (reftimes32 x x w hx).mono ?_
        rintro e w1 ⟨rfl, rfl⟩
        generalize Crc.tim Crc.P32 32 x x = x2 at *
        go_wp2
        go_round
        case rel => exact ⟨n' / 2, p2, x2, _, _, by go_num, rfl, rfl, by omega, HP2, HX2, HE2⟩
        case measure => simp [intOf]; omega
      · have HE2 : Hid (m + (k + k) * (n' / 2) = 8 * n) := half_flat _ _ _ _ ho HE.out
        clear HE
        go_wp2_with fail
        refine (reftimes32 x x w hx).mono ?_
        rintro e w1 ⟨rfl, rfl⟩
        generalize Crc.tim Crc.P32 32 x x = x2 at *
        go_wp2
        go_round
        case rel => exact ⟨n' / 2, p, x2, _, _, by go_num, rfl, rfl, by omega, HP, HX2, HE2⟩
        case measure => simp [intOf]; omega
    · obtain rfl : n' = 0 := by omega
      have HF : Hid (Crc.tim Crc.P32 32 p s = Crc.itr Crc.P32 (8 * n) s) := by
        show _ = _
        rw [HP.out.2 s hs, ← HE.out, Nat.mul_zero, Nat.add_zero]
      clear HE HP HX hp hx
      go_wp2_with fail
      refine (reftimes32 p s w hs).mono ?_
      rintro e w1 ⟨rfl, rfl⟩
      rw [HF.out]
      go_wp2
      go_ret
      exact ⟨rfl, rfl⟩

theorem refjoin32_yes (a b n : Nat) (w : World) (ha : a < 4294967296) (hb : b < 4294967296) (hn : n ≤ 1099511627776) :
    Calls Tryd.prog 7 #[.int .u64 a, .int .u64 b, .int .i64 n, .int .i64 32] w fun e w' => e = .returned (.tuple #[.int .u64 (Crc.itr Crc.P32 (8 * n) a ^^^ b : Nat), .int .i64 0]) ∧ w = w' := by
  have hx := xor64 _ b (le32 (Crc.itr_lt (w := 32) Crc.p32_lt (8 * n) ha)) (le32 hb)
  go_enter Tryd.func7, Tryd.ntmps7
  go_wp2_with fail
  refine (refzeros32 a n w ha (by omega)).mono ?_
  rintro e w1 ⟨rfl, rfl⟩
  generalize hz : Crc.itr Crc.P32 (8 * n) a = z at *
  have HZ : Hid (Crc.itr Crc.P32 (8 * n) a = z) := hz
  clear hz
  go_wp2
  go_ret2
  exact ⟨by rw [HZ.out]; rfl, rfl⟩

theorem refjoin32_no (a b : Nat) (n : Int) (w : World) (h : n < 0 ∨ 1099511627776 < n) :
    Calls Tryd.prog 7 #[.int .u64 a, .int .u64 b, .int .i64 n, .int .i64 32] w fun e w' => e = .returned (.tuple #[.int .u64 0, .int .i64 7]) ∧ w = w' := by
  rcases h with h | h
  · go_enter Tryd.func7, Tryd.ntmps7
    go_wp2
    go_ret2
    exact ⟨rfl, rfl⟩
  · go_enter Tryd.func7, Tryd.ntmps7
    go_wp2
    go_ret2
    exact ⟨rfl, rfl⟩

theorem refmore32_some (s : Nat) (x : Addr) (n c : Nat) (ns : List Nat) (w : World) (hs : s < 4294967296) (HX : Hid (∀ j u, ((up ns).map (Value.int .u8))[j]? = some u → w.cell? (x.add j) = some u)) (HM : Hid (ns.length = n)) (HB : Hid (Byt ns)) (hl : n ≤ 140737488355328) :
    Calls Tryd.prog 12 #[.int .u64 s, .slice (some x) n c, .int .i64 32] w fun e w' => e = .returned (.int .u64 (Crc.more Crc.P32 32 s ns : Nat)) ∧ w = w' := by
  have h1 : bits .xor .u64 (s : Int) 4294967295 = ((4294967295 ^^^ s : Nat) : Int) := by
    have := xor64 s 4294967295 (le32 hs) (by decide)
    rw [Nat.xor_comm] at this
    exact this
  have ha := nxor32_lt hs
  have HE : Hid (Crc.more Crc.P32 32 s ns = 4294967295 ^^^ Crc.raw Crc.P32 (4294967295 ^^^ s) ns) := rfl
  generalize 4294967295 ^^^ s = a at *
  go_enter Tryd.func12, Tryd.ntmps12
  go_wp2_with fail
  refine (ones32 w).mono ?_
  rintro e w1 ⟨rfl, rfl⟩
  go_wp2_with fail
  go_loop [7, 8] (fun z i => ∃ k : Nat, k ≤ n ∧ i = .int .i64 k ∧ z = .int .u64 (Crc.raw Crc.P32 a (ns.take k) : Nat)) (fun _ i => n - (intOf i).toNat)
  case atStart => exact ⟨0, by omega, rfl, rfl⟩
  case round =>
    clear h1
    obtain ⟨k, hk, rfl, rfl⟩ := hrel
    have hq : Crc.raw Crc.P32 a (ns.take k) < 4294967296 := raw32_lt (HB.out.take k) ha
    by_cases hlt : k < n
    · have hkl : k < ns.length := by rw [HM.out]; exact hlt
      have hc := cellN HX.out k hkl
      have hy := HB.out.at k hkl
      have HP : Hid (Crc.put Crc.P32 (Crc.raw Crc.P32 a (ns.take k)) ns[k] = Crc.raw Crc.P32 a (ns.take (k + 1))) := raw32_take a ns k hkl
      generalize ns[k] = y at *
      generalize Crc.raw Crc.P32 a (ns.take k) = q at *
      go_wp2_with fail
      refine (refput32 q y w hq hy).mono ?_
      rintro e w1 ⟨rfl, rfl⟩
      go_wp2
      go_round
      case rel => exact ⟨k + 1, by omega, by go_num, by rw [HP.out]⟩
      case measure => simp [intOf]; omega
    · obtain rfl : k = n := by omega
      have HF : Hid (ns.take k = ns) := List.take_of_length_le (by rw [HM.out]; exact Nat.le_refl _)
      rw [HF.out] at hq ⊢
      have h2 : bits .xor .u64 ((Crc.raw Crc.P32 a ns : Nat) : Int) 4294967295 = ((4294967295 ^^^ Crc.raw Crc.P32 a ns : Nat) : Int) := by
        have := xor64 _ 4294967295 (le32 hq) (by decide)
        rw [Nat.xor_comm] at this
        exact this
      go_wp2_with fail
      refine (ones32 w).mono ?_
      rintro e w1 ⟨rfl, rfl⟩
      go_wp2
      go_ret
      exact ⟨by rw [HE.out]; rfl, rfl⟩

theorem refmore32_any (s : Nat) (ad : Option Addr) (n c : Nat) (ns : List Nat) (w : World) (hs : s < 4294967296) (h : Row8 w ad n c (up ns)) (hb : Byt ns) (hl : n ≤ 140737488355328) :
    Calls Tryd.prog 12 #[.int .u64 s, .slice ad n c, .int .i64 32] w fun e w' => e = .returned (.int .u64 (Crc.more Crc.P32 32 s ns : Nat)) ∧ w = w' := by
  have hm : ns.length = n := by rw [← up_length]; exact h.1
  rcases h.2 with ⟨rfl, rfl, rfl⟩ | ⟨x, rfl, hx⟩
  · have e : ns = [] := List.eq_nil_of_length_eq_zero hm
    subst e
    rw [Crc.more_nil]
    have h1 : bits .xor .u64 (s : Int) 4294967295 = ((4294967295 ^^^ s : Nat) : Int) := by
      have := xor64 s 4294967295 (le32 hs) (by decide)
      rw [Nat.xor_comm] at this
      exact this
    have h2 : bits .xor .u64 ((4294967295 ^^^ s : Nat) : Int) 4294967295 = (s : Int) := by
      have := xor64 (4294967295 ^^^ s) 4294967295 (le32 (nxor32_lt hs)) (by decide)
      rw [Nat.xor_comm (4294967295 ^^^ s) 4294967295, Crc.xor_cancel] at this
      exact this
    clear h hb hm hl
    generalize 4294967295 ^^^ s = a at *
    go_enter Tryd.func12, Tryd.ntmps12
    go_wp2_with fail
    refine (ones32 w).mono ?_
    rintro e w1 ⟨rfl, rfl⟩
    go_wp2_with fail
    go_loop [7, 8] (fun z i => z = .int .u64 a ∧ i = .int .i64 0) (fun _ _ => 0)
    case atStart => exact ⟨rfl, rfl⟩
    case round =>
      obtain ⟨rfl, rfl⟩ := hrel
      go_wp2_with fail
      refine (ones32 w).mono ?_
      rintro e w1 ⟨rfl, rfl⟩
      go_wp2
      go_ret
      exact ⟨rfl, rfl⟩
  · exact refmore32_some s x n c ns w hs hx hm hb hl
theorem acts64 {m n a b : Nat} (ha : Crc.Acts Crc.P64 64 m a) (hb : Crc.Acts Crc.P64 64 n b) : Crc.Acts Crc.P64 64 (m + n) (Crc.tim Crc.P64 64 a b) :=
  Crc.Acts.mul (by decide) Crc.p64_one Crc.p64_itr Crc.p64_lt ha hb

set_option maxHeartbeats 1000000 in
theorem refzeros64 (s n : Nat) (w : World) (hs : s < 18446744073709551616) (hn : n ≤ 140737488355328) :
    Calls Tryd.prog 22 #[.int .u64 s, .int .i64 n, .int .i64 64] w fun e w' => e = .returned (.int .u64 (Crc.itr Crc.P64 (8 * n) s : Nat)) ∧ w = w' := by
  have A0 : Crc.Acts Crc.P64 64 0 9223372036854775808 := Crc.Acts.one Crc.P64 64 0 (by decide)
  have A8 : Crc.Acts Crc.P64 64 8 36028797018963968 := Crc.Acts.one Crc.P64 64 8 (by decide)
  have HA : Hid (Crc.Acts Crc.P64 64 0 9223372036854775808 ∧ Crc.Acts Crc.P64 64 8 36028797018963968) := ⟨A0, A8⟩
  clear A0 A8
  go_enter Tryd.func22, Tryd.ntmps22
  go_wp2_with fail
  refine (refone64 w).mono ?_
  rintro e w1 ⟨rfl, rfl⟩
  go_wp2_with fail
  refine (refone64 w).mono ?_
  rintro e w1 ⟨rfl, rfl⟩
  go_wp2_with fail
  go_loop [1, 7, 8] (fun b p x => ∃ n' p' x' m k : Nat, b = .int .i64 n' ∧ p = .int .u64 p' ∧ x = .int .u64 x' ∧ n' ≤ 140737488355328 ∧ Hid (Crc.Acts Crc.P64 64 m p') ∧ Hid (Crc.Acts Crc.P64 64 k x') ∧ Hid (m + k * n' = 8 * n)) (fun b _ _ => (intOf b).toNat)
  case atStart => exact ⟨n, 9223372036854775808, 36028797018963968, 0, 8, rfl, rfl, rfl, hn, HA.out.1, HA.out.2, Nat.zero_add _⟩
  case round =>
    clear HA
    obtain ⟨n', p, x, m, k, rfl, rfl, rfl, hn', HP, HX, HE⟩ := hrel
    have hp := HP.out.1
    have hx := HX.out.1
    by_cases hpos : 0 < n'
    · have HX2 : Hid (Crc.Acts Crc.P64 64 (k + k) (Crc.tim Crc.P64 64 x x)) := acts64 HX.out HX.out
      by_cases ho : n' % 2 = 1
      · have HP2 : Hid (Crc.Acts Crc.P64 64 (m + k) (Crc.tim Crc.P64 64 p x)) := acts64 HP.out HX.out
        have HE2 : Hid ((m + k) + (k + k) * (n' / 2) = 8 * n) := half_step _ _ _ _ ho HE.out
        clear HE HP
        go_wp2_with fail
        refine (reftimes64 p x w hx).mono ?_
        rintro e w1 ⟨rfl, rfl⟩
        generalize Crc.tim Crc.P64 64 p x = p2 at *
        go_wp2_with fail
        refine (reftimes64 x x w hx).mono ?_
        rintro e w1 ⟨rfl, rfl⟩
        generalize Crc.tim Crc.P64 64 x x = x2 at *
        go_wp2
        go_round
        case rel => exact ⟨n' / 2, p2, x2, _, _, by go_num, rfl, rfl, by omega, HP2, HX2, HE2⟩
        case measure => simp [intOf]; omega
      · have HE2 : Hid (m + (k + k) * (n' / 2) = 8 * n) := half_flat _ _ _ _ ho HE.out
        clear HE
        go_wp2_with fail
        refine (reftimes64 x x w hx).mono ?_
        rintro e w1 ⟨rfl, rfl⟩
        generalize Crc.tim Crc.P64 64 x x = x2 at *
        go_wp2
        go_round
        case rel => exact ⟨n' / 2, p, x2, _, _, by go_num, rfl, rfl, by omega, HP, HX2, HE2⟩
        case measure => simp [intOf]; omega
    · obtain rfl : n' = 0 := by omega
      have HF : Hid (Crc.tim Crc.P64 64 p s = Crc.itr Crc.P64 (8 * n) s) := by
        show _ = _
        rw [HP.out.2 s hs, ← HE.out, Nat.mul_zero, Nat.add_zero]
      clear HE HP HX hp hx
      go_wp2_with fail
      refine (reftimes64 p s w hs).mono ?_
      rintro e w1 ⟨rfl, rfl⟩
      rw [HF.out]
      go_wp2
      go_ret
      exact ⟨rfl, rfl⟩

theorem refjoin64_yes (a b n : Nat) (w : World) (ha : a < 18446744073709551616) (hb : b < 18446744073709551616) (hn : n ≤ 1099511627776) :
    Calls Tryd.prog 7 #[.int .u64 a, .int .u64 b, .int .i64 n, .int .i64 64] w fun e w' => e = .returned (.tuple #[.int .u64 (Crc.itr Crc.P64 (8 * n) a ^^^ b : Nat), .int .i64 0]) ∧ w = w' := by
  have hx := xor64 _ b (le64 (Crc.itr_lt (w := 64) Crc.p64_lt (8 * n) ha)) (le64 hb)
  go_enter Tryd.func7, Tryd.ntmps7
  go_wp2_with fail
  refine (refzeros64 a n w ha (by omega)).mono ?_
  rintro e w1 ⟨rfl, rfl⟩
  generalize hz : Crc.itr Crc.P64 (8 * n) a = z at *
  have HZ : Hid (Crc.itr Crc.P64 (8 * n) a = z) := hz
  clear hz
  go_wp2
  go_ret2
  exact ⟨by rw [HZ.out]; rfl, rfl⟩

theorem refjoin64_no (a b : Nat) (n : Int) (w : World) (h : n < 0 ∨ 1099511627776 < n) :
    Calls Tryd.prog 7 #[.int .u64 a, .int .u64 b, .int .i64 n, .int .i64 64] w fun e w' => e = .returned (.tuple #[.int .u64 0, .int .i64 7]) ∧ w = w' := by
  rcases h with h | h
  · go_enter Tryd.func7, Tryd.ntmps7
    go_wp2
    go_ret2
    exact ⟨rfl, rfl⟩
  · go_enter Tryd.func7, Tryd.ntmps7
    go_wp2
    go_ret2
    exact ⟨rfl, rfl⟩

theorem refmore64_some (s : Nat) (x : Addr) (n c : Nat) (ns : List Nat) (w : World) (hs : s < 18446744073709551616) (HX : Hid (∀ j u, ((up ns).map (Value.int .u8))[j]? = some u → w.cell? (x.add j) = some u)) (HM : Hid (ns.length = n)) (HB : Hid (Byt ns)) (hl : n ≤ 140737488355328) :
    Calls Tryd.prog 12 #[.int .u64 s, .slice (some x) n c, .int .i64 64] w fun e w' => e = .returned (.int .u64 (Crc.more Crc.P64 64 s ns : Nat)) ∧ w = w' := by
  have h1 : bits .xor .u64 (s : Int) 18446744073709551615 = ((18446744073709551615 ^^^ s : Nat) : Int) := by
    have := xor64 s 18446744073709551615 (le64 hs) (by decide)
    rw [Nat.xor_comm] at this
    exact this
  have ha := nxor64_lt hs
  have HE : Hid (Crc.more Crc.P64 64 s ns = 18446744073709551615 ^^^ Crc.raw Crc.P64 (18446744073709551615 ^^^ s) ns) := rfl
  generalize 18446744073709551615 ^^^ s = a at *
  go_enter Tryd.func12, Tryd.ntmps12
  go_wp2_with fail
  refine (ones64 w).mono ?_
  rintro e w1 ⟨rfl, rfl⟩
  go_wp2_with fail
  go_loop [7, 8] (fun z i => ∃ k : Nat, k ≤ n ∧ i = .int .i64 k ∧ z = .int .u64 (Crc.raw Crc.P64 a (ns.take k) : Nat)) (fun _ i => n - (intOf i).toNat)
  case atStart => exact ⟨0, by omega, rfl, rfl⟩
  case round =>
    clear h1
    obtain ⟨k, hk, rfl, rfl⟩ := hrel
    have hq : Crc.raw Crc.P64 a (ns.take k) < 18446744073709551616 := raw64_lt (HB.out.take k) ha
    by_cases hlt : k < n
    · have hkl : k < ns.length := by rw [HM.out]; exact hlt
      have hc := cellN HX.out k hkl
      have hy := HB.out.at k hkl
      have HP : Hid (Crc.put Crc.P64 (Crc.raw Crc.P64 a (ns.take k)) ns[k] = Crc.raw Crc.P64 a (ns.take (k + 1))) := raw64_take a ns k hkl
      generalize ns[k] = y at *
      generalize Crc.raw Crc.P64 a (ns.take k) = q at *
      go_wp2_with fail
      refine (refput64 q y w hq hy).mono ?_
      rintro e w1 ⟨rfl, rfl⟩
      go_wp2
      go_round
      case rel => exact ⟨k + 1, by omega, by go_num, by rw [HP.out]⟩
      case measure => simp [intOf]; omega
    · obtain rfl : k = n := by omega
      have HF : Hid (ns.take k = ns) := List.take_of_length_le (by rw [HM.out]; exact Nat.le_refl _)
      rw [HF.out] at hq ⊢
      have h2 : bits .xor .u64 ((Crc.raw Crc.P64 a ns : Nat) : Int) 18446744073709551615 = ((18446744073709551615 ^^^ Crc.raw Crc.P64 a ns : Nat) : Int) := by
        have := xor64 _ 18446744073709551615 (le64 hq) (by decide)
        rw [Nat.xor_comm] at this
        exact this
      go_wp2_with fail
      refine (ones64 w).mono ?_
      rintro e w1 ⟨rfl, rfl⟩
      go_wp2
      go_ret
      exact ⟨by rw [HE.out]; rfl, rfl⟩

theorem refmore64_any (s : Nat) (ad : Option Addr) (n c : Nat) (ns : List Nat) (w : World) (hs : s < 18446744073709551616) (h : Row8 w ad n c (up ns)) (hb : Byt ns) (hl : n ≤ 140737488355328) :
    Calls Tryd.prog 12 #[.int .u64 s, .slice ad n c, .int .i64 64] w fun e w' => e = .returned (.int .u64 (Crc.more Crc.P64 64 s ns : Nat)) ∧ w = w' := by
  have hm : ns.length = n := by rw [← up_length]; exact h.1
  rcases h.2 with ⟨rfl, rfl, rfl⟩ | ⟨x, rfl, hx⟩
  · have e : ns = [] := List.eq_nil_of_length_eq_zero hm
    subst e
    rw [Crc.more_nil]
    have h1 : bits .xor .u64 (s : Int) 18446744073709551615 = ((18446744073709551615 ^^^ s : Nat) : Int) := by
      have := xor64 s 18446744073709551615 (le64 hs) (by decide)
      rw [Nat.xor_comm] at this
      exact this
    have h2 : bits .xor .u64 ((18446744073709551615 ^^^ s : Nat) : Int) 18446744073709551615 = (s : Int) := by
      have := xor64 (18446744073709551615 ^^^ s) 18446744073709551615 (le64 (nxor64_lt hs)) (by decide)
      rw [Nat.xor_comm (18446744073709551615 ^^^ s) 18446744073709551615, Crc.xor_cancel] at this
      exact this
    clear h hb hm hl
    generalize 18446744073709551615 ^^^ s = a at *
    go_enter Tryd.func12, Tryd.ntmps12
    go_wp2_with fail
    refine (ones64 w).mono ?_
    rintro e w1 ⟨rfl, rfl⟩
    go_wp2_with fail
    go_loop [7, 8] (fun z i => z = .int .u64 a ∧ i = .int .i64 0) (fun _ _ => 0)
    case atStart => exact ⟨rfl, rfl⟩
    case round =>
      obtain ⟨rfl, rfl⟩ := hrel
      go_wp2_with fail
      refine (ones64 w).mono ?_
      rintro e w1 ⟨rfl, rfl⟩
      go_wp2
      go_ret
      exact ⟨rfl, rfl⟩
  · exact refmore64_some s x n c ns w hs hx hm hb hl
end Go.Proofs.YtmgjbkgooekihabDoor
