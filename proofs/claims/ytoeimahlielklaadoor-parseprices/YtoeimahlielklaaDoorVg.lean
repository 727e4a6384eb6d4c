/- How many binary digits a number has: the standard library's; of no statement by itself. -/
import Derived.Test.YtoeimahlielklaaDoorVf
import Derived.Laws.MathBits
import Derived.Laws.IdiomStrings
import Derived.Laws.BitsAllLaws
import Derived.Deep.DeepCutAuto
namespace Go.Proofs.YtoeimahlielklaaDoor
open Go.RowKit
open St12
set_option linter.unusedVariables false
set_option linter.unusedSimpArgs false
/-- How many digits each byte has. -/
def lenTab : ByteArray := ⟨#[0, 1, 2, 2, 3, 3, 3, 3, 4, 4, 4, 4, 4, 4, 4, 4, 5, 5, 5, 5, 5, 5, 5, 5, 5, 5, 5, 5, 5, 5, 5, 5, 6, 6, 6, 6, 6, 6, 6, 6, 6, 6, 6, 6, 6, 6, 6, 6, 6, 6, 6, 6, 6, 6, 6, 6, 6, 6, 6, 6, 6, 6, 6, 6, 7, 7, 7, 7, 7, 7, 7, 7, 7, 7, 7, 7, 7, 7, 7, 7, 7, 7, 7, 7, 7, 7, 7, 7, 7, 7, 7, 7, 7, 7, 7, 7, 7, 7, 7, 7, 7, 7, 7, 7, 7, 7, 7, 7, 7, 7, 7, 7, 7, 7, 7, 7, 7, 7, 7, 7, 7, 7, 7, 7, 7, 7, 7, 7, 8, 8, 8, 8, 8, 8, 8, 8, 8, 8, 8, 8, 8, 8, 8, 8, 8, 8, 8, 8, 8, 8, 8, 8, 8, 8, 8, 8, 8, 8, 8, 8, 8, 8, 8, 8, 8, 8, 8, 8, 8, 8, 8, 8, 8, 8, 8, 8, 8, 8, 8, 8, 8, 8, 8, 8, 8, 8, 8, 8, 8, 8, 8, 8, 8, 8, 8, 8, 8, 8, 8, 8, 8, 8, 8, 8, 8, 8, 8, 8, 8, 8, 8, 8, 8, 8, 8, 8, 8, 8, 8, 8, 8, 8, 8, 8, 8, 8, 8, 8, 8, 8, 8, 8, 8, 8, 8, 8, 8, 8, 8, 8, 8, 8, 8, 8, 8, 8, 8, 8, 8, 8, 8, 8, 8, 8, 8, 8]⟩
theorem run_len8 (y : Int) (h0 : 0 ≤ y) (h1 : y < 256) (L : Int) (hL : L = (bitLen y.toNat : Int)) (w : World) : (Instr.index 9 (.string lenTab) (.int .u8 y)).run Tryd.prog w = .ok (.int .u8 L) w := by
  have hsz : lenTab.size = 256 := by decide +kernel
  have hlt : y.toNat < lenTab.size := by omega
  rw [run_index_string w 9 lenTab .u8 y Tryd.underlying9, dif_pos ⟨h0, by omega⟩, hL]
  have := len8tab_get y.toNat hlt
  congr 3
set_option maxHeartbeats 2000000 in
set_option maxRecDepth 100000 in
theorem len64_any (x : Int) (hx0 : 0 ≤ x) (hx : x < 4294967296) (w : World) : Calls Tryd.prog 31 #[.int .u64 x] w fun e w' => e = .returned (.int .i64 (bitLen x.toNat : Int)) ∧ w' = w := by
  obtain ⟨N, hN⟩ : ∃ N, (bitLen x.toNat : Int) = N := ⟨_, rfl⟩
  have HN : Hid _ := hN
  rw [hN]
  clear hN
  go_enter Tryd.func31, Tryd.ntmps31
  conv in (ByteArray.mk _) => change lenTab
  have d0 : decide (4294967296 ≤ x) = false := decide_eq_false (by omega)
  by_cases h1 : 65536 ≤ x
  · have d1 : decide (65536 ≤ x) = true := decide_eq_true h1
    obtain ⟨z, hz⟩ : ∃ z, x / 65536 = z := ⟨_, rfl⟩
    have hz0 : 1 ≤ z := by omega
    have hz1 : z < 65536 := by omega
    by_cases h2 : 256 ≤ z
    · have d2 : decide (256 ≤ z) = true := decide_eq_true h2
      obtain ⟨y, hy⟩ : ∃ y, z / 256 = y := ⟨_, rfl⟩
      have hy0 : 1 ≤ y := by omega
      have hy1 : y < 256 := by omega
      obtain ⟨L, hL⟩ : ∃ L : Int, L = (bitLen (y).toNat : Int) := ⟨_, rfl⟩
      have hl8 := bitLen_le8 (y).toNat (by omega)
      have hL8 : L ≤ 8 := by omega
      have hL0 : 0 ≤ L := by omega
      have hix : ∀ ww : World, (Instr.index 9 (.string lenTab) (.int .u8 (y))).run Tryd.prog ww = .ok (.int .u8 L) ww := fun ww => run_len8 (y) (by omega) (by omega) L hL ww
      have HE : Hid (N = 24 + L) := by
        show _ = _
        rw [← HN.out, hL, bitLen_shift x.toNat 24 (by omega), show x.toNat / 2 ^ 24 = (y).toNat by omega]; simp
      clear hL hl8 HN
      go_wp2
      go_ret
      exact ⟨by rw [HE.out]; rfl, rfl⟩
    · have d2 : decide (256 ≤ z) = false := decide_eq_false h2
      have hz2 : z < 256 := by omega
      obtain ⟨L, hL⟩ : ∃ L : Int, L = (bitLen (z).toNat : Int) := ⟨_, rfl⟩
      have hl8 := bitLen_le8 (z).toNat (by omega)
      have hL8 : L ≤ 8 := by omega
      have hL0 : 0 ≤ L := by omega
      have hix : ∀ ww : World, (Instr.index 9 (.string lenTab) (.int .u8 (z))).run Tryd.prog ww = .ok (.int .u8 L) ww := fun ww => run_len8 (z) (by omega) (by omega) L hL ww
      have HE : Hid (N = 16 + L) := by
        show _ = _
        rw [← HN.out, hL, bitLen_shift x.toNat 16 (by omega), show x.toNat / 2 ^ 16 = (z).toNat by omega]; simp
      clear hL hl8 HN
      go_wp2
      go_ret
      exact ⟨by rw [HE.out]; rfl, rfl⟩
  · have d1 : decide (65536 ≤ x) = false := decide_eq_false (by omega)
    have hX1 : x < 65536 := by omega
    by_cases h2 : 256 ≤ x
    · have d2 : decide (256 ≤ x) = true := decide_eq_true (by omega)
      obtain ⟨y, hy⟩ : ∃ y, x / 256 = y := ⟨_, rfl⟩
      have hy0 : 1 ≤ y := by omega
      have hy1 : y < 256 := by omega
      obtain ⟨L, hL⟩ : ∃ L : Int, L = (bitLen (y).toNat : Int) := ⟨_, rfl⟩
      have hl8 := bitLen_le8 (y).toNat (by omega)
      have hL8 : L ≤ 8 := by omega
      have hL0 : 0 ≤ L := by omega
      have hix : ∀ ww : World, (Instr.index 9 (.string lenTab) (.int .u8 (y))).run Tryd.prog ww = .ok (.int .u8 L) ww := fun ww => run_len8 (y) (by omega) (by omega) L hL ww
      have HE : Hid (N = 8 + L) := by
        show _ = _
        rw [← HN.out, hL, bitLen_shift x.toNat 8 (by omega), show x.toNat / 2 ^ 8 = (y).toNat by omega]; simp
      clear hL hl8 HN
      go_wp2
      go_ret
      exact ⟨by rw [HE.out]; rfl, rfl⟩
    · have d2 : decide (256 ≤ x) = false := decide_eq_false h2
      have hx2 : x < 256 := by omega
      obtain ⟨L, hL⟩ : ∃ L : Int, L = (bitLen (x).toNat : Int) := ⟨_, rfl⟩
      have hl8 := bitLen_le8 (x).toNat (by omega)
      have hL8 : L ≤ 8 := by omega
      have hL0 : 0 ≤ L := by omega
      have hix : ∀ ww : World, (Instr.index 9 (.string lenTab) (.int .u8 (x))).run Tryd.prog ww = .ok (.int .u8 L) ww := fun ww => run_len8 (x) (by omega) (by omega) L hL ww
      have HE : Hid (N = 0 + L) := by
        show _ = _
        rw [← HN.out, hL, Int.zero_add]
      clear hL hl8 HN
      go_wp2
      go_ret
      exact ⟨by rw [HE.out, Int.zero_add]; rfl, rfl⟩
theorem len_any (x : Int) (hx0 : 0 ≤ x) (hx : x < 4294967296) (w : World) : Calls Tryd.prog 29 #[.int .u64 x] w fun e w' => e = .returned (.int .i64 (bitLen x.toNat : Int)) ∧ w' = w := by
  have HL : Hid _ := len64_any x hx0 hx w
  obtain ⟨N, hN⟩ : ∃ N, (bitLen x.toNat : Int) = N := ⟨_, rfl⟩
  rw [hN] at HL ⊢
  clear hN
  go_enter Tryd.func29, Tryd.ntmps29
  go_wp2_with fail
  refine Calls.mono HL.out ?_
  rintro z w1 ⟨rfl, rfl⟩
  clear HL
  go_wp2
  go_ret
  exact ⟨rfl, rfl⟩
theorem and_1 (n : Int) : bits .and .i64 n 1 = n % 2 := by
  have h1 : (BitVec.ofInt 64 1).toNat = 2 ^ 1 - 1 := by decide
  have key : (BitVec.ofInt 64 n &&& BitVec.ofInt 64 1).toNat = (n % ((2 ^ 64 : Nat) : Int)).toNat % 2 ^ 1 := by
    rw [BitVec.toNat_and, BitVec.toNat_ofInt, h1, Nat.and_two_pow_sub_one_eq_mod]
  show IntKind.i64.wrap ((BitVec.ofInt 64 n &&& BitVec.ofInt 64 1).toNat : Nat) = n % 2
  rw [key, IntKind.wrap_i64]
  omega
theorem shr_nat (m i : Nat) : ((m : Int) / 2 ^ i) = ((m / 2 ^ i : Nat) : Int) := by simp
set_option maxHeartbeats 1000000 in
set_option maxRecDepth 100000 in
theorem slotof_q (x : Nat) (hx : x < 4294967295) (w : World) : Calls Tryd.prog 27 #[.int .i64 (x : Int)] w fun e w' => e = .returned (.int .i64 (slotN (x + 1) : Int)) ∧ w' = w := by
  have hxi : (x : Int) < 4294967295 := by omega
  obtain ⟨R, hR⟩ : ∃ R, slotN (x + 1) = R := ⟨_, rfl⟩
  have HR : Hid (slotN (x + 1) = R) := hR
  rw [hR]
  clear hR
  by_cases h4 : x < 4
  · have d2 : decide ((x : Int) < 4) = true := by simp; omega
    have d2' : decide (x < 4) = true := decide_eq_true h4
    have HS : Hid (R = x) := by rw [← HR.out]; exact slot_small h4
    clear hx
    go_enter Tryd.func27, Tryd.ntmps27
    go_wp2
    go_ret
    exact ⟨by rw [HS.out]; rfl, rfl⟩
  have d2 : decide ((x : Int) < 4) = false := by simp; omega
  have d2' : decide (x < 4) = false := decide_eq_false h4
  obtain ⟨K, hK2, hK31, hlo, hup⟩ := digits (x := x) (by omega) (by omega)
  have hlog : bitLen x = K + 1 := by
    unfold bitLen
    rw [if_neg (by omega), (Nat.log2_eq_iff (by omega)).2 ⟨hlo, hup⟩]
  obtain ⟨k1, hk1⟩ : ∃ k1, K = k1 + 1 := ⟨K - 1, by omega⟩
  obtain ⟨D, hD⟩ : ∃ D, K + 1 = D := ⟨_, rfl⟩
  have hLen : Hid (∀ ww, Calls Tryd.prog 29 #[.int .u64 (x : Int)] ww fun e w' => e = .returned (.int .i64 (D : Int)) ∧ w' = ww) := fun ww => by
    have := len_any (x : Int) (by omega) (by omega) ww
    rw [Int.toNat_natCast, hlog, hD] at this
    exact this
  have HS : Hid (R = 2 * K + x / 2 ^ k1 % 2) := by
    have := slot_shift hK2 hK31 hlo hup
    rw [Nat.shiftRight_eq_div_pow, Nat.and_one_is_mod, HR.out, show K - 1 = k1 by omega] at this
    exact this
  have hD1 : (D : Int) - 1 = (K : Int) := by omega
  have hD2 : (D : Int) - 2 = (k1 : Int) := by omega
  have hDi : (D : Int) ≤ 32 := by omega
  have hKi : (K : Int) ≤ 31 := by omega
  have hk1i : (k1 : Int) ≤ 30 := by omega
  have hsh1 := shr_nat x k1
  obtain ⟨r, hr⟩ : ∃ r, x / 2 ^ k1 = r := ⟨_, rfl⟩
  rw [hr] at hsh1 HS
  have hand : bits .and .i64 (r : Int) 1 = ((r % 2 : Nat) : Int) := by rw [and_1]; omega
  obtain ⟨c2, hc2⟩ : ∃ c2, r % 2 = c2 := ⟨_, rfl⟩
  have hcl : (c2 : Int) < 2 := by omega
  rw [hc2] at hand HS
  clear hc2 hr hlog hlo hup hk1 hD hx HR
  go_enter Tryd.func27, Tryd.ntmps27
  go_wp2_with fail
  refine (hLen.out _).mono ?_
  rintro z w1 ⟨rfl, rfl⟩
  go_wp2
  go_ret
  exact ⟨by rw [HS.out]; simp, rfl⟩
set_option maxHeartbeats 1000000 in
theorem tslot_q (d : Int) (hd : I64 d) (w : World) : Calls Tryd.prog 25 #[.int .i64 d] w fun e w' => e = .returned (.tuple #[.int .i64 (slotA d).1, .int .i64 (slotA d).2]) ∧ Chg (fun _ => False) w w' := by
  have HC : Hid (Chg (fun _ => False) w w) := Chg.refl _ _
  have HD : Hid (Calls Tryd.prog 22 #[.int .i64 d] w fun e w' => e = .returned (.bool (decide (okR d))) ∧ w' = w) := isdist_q d w
  by_cases h0 : okR d
  · rw [decide_eq_true h0] at HD
    obtain ⟨h1, h2⟩ := h0
    obtain ⟨x, hx⟩ : ∃ x : Nat, d - 1 = (x : Int) := ⟨(d - 1).toNat, by omega⟩
    have HF : Hid (slotA d = ((slotN (x + 1) : Int), 0)) := by show slotA d = _; unfold slotA; rw [if_pos (by omega), show d.toNat = x + 1 by omega]
    have HQ : Hid _ := slotof_q x (by omega) w
    go_enter Tryd.func25, Tryd.ntmps25
    go_wp2_with fail
    refine Calls.mono HD.out ?_
    rintro z w1 ⟨rfl, rfl⟩
    go_wp2_with fail
    refine Calls.mono HQ.out ?_
    rintro z w1 ⟨rfl, rfl⟩
    go_wp2
    go_ret2
    exact ⟨by rw [HF.out]; rfl, HC.out⟩
  · rw [decide_eq_false h0] at HD
    have HF : Hid (slotA d = (0, 7)) := by show slotA d = _; unfold slotA; rw [if_neg (show ¬ (1 ≤ d ∧ d ≤ 4294967295) from h0)]
    clear h0
    go_enter Tryd.func25, Tryd.ntmps25
    go_wp2_with fail
    refine Calls.mono HD.out ?_
    rintro z w1 ⟨rfl, rfl⟩
    go_wp2
    go_ret2
    exact ⟨by rw [HF.out]; rfl, HC.out⟩
end Go.Proofs.YtoeimahlielklaaDoor
