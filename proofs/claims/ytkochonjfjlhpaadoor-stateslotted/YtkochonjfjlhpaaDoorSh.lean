/- StateSlotted; of no statement by itself. -/
import Derived.Test.YtkochonjfjlhpaaDoorSb
import Derived.Test.YtkochonjfjlhpaaDoorSq
namespace Go.Proofs.YtkochonjfjlhpaaDoor
open Go.RowKit
open St12
set_option linter.unusedVariables false
set_option linter.unusedSimpArgs false

theorem range_in {i : Nat} (h : i < 64) : rangeA (i : Int) = ((least i : Int), (bitsN i : Int), 0) := by
  unfold rangeA
  rw [if_pos (by omega)]
  simp
theorem slot_in {d : Nat} (h : 1 ≤ d) (h2 : d ≤ 4294967295) : slotA (d : Int) = ((slotN d : Int), 0) := by
  unfold slotA
  rw [if_pos (by omega)]
  simp
theorem wrap_one {P : Nat} (h2 : P ≤ 1073741824) : wrap64 (P : Int) = (P : Int) := by
  unfold wrap64
  omega
theorem wrap_two {ls P : Nat} (h : ls ≤ 3221225473) (h2 : P ≤ 1073741824) : wrap64 ((ls : Int) + wrap64 (P : Int)) = ((ls + P : Nat) : Int) := by
  rw [wrap_one h2]
  unfold wrap64
  omega
set_option maxHeartbeats 2000000 in
theorem slotted_any {Tab : World → Prop} (S : StSpec Tab) (a b : Int) (ha : I64 a) (hb : I64 b) (w : World) (hT : Tab w) : Calls Tryd.prog 3 #[.int .i64 a, .int .i64 b] w fun e w' => e = .returned (.bool true) ∧ Chg (fun _ => False) w w' := by
  have HT : Hid (Tab w) := hT
  have HR : Hid (∀ (i : Nat) w', i < 64 → Tab w' → Calls Tryd.prog 9 #[.int .i64 (i : Int)] w' fun e w'' => e = .returned (.tuple #[.int .i64 (least i : Int), .int .i64 (bitsN i : Int), .int .i64 0]) ∧ Chg (fun _ => False) w' w'') := fun i w' hi h => by
    have := S.range (i : Int) w' h ⟨by omega, by omega⟩
    rw [range_in hi] at this
    exact this
  have HFX : Hid (∀ w', Tab w' → Calls Tryd.prog 10 #[] w' fun e w'' => e = .returned (.bool true) ∧ Chg (fun _ => False) w' w'') := fun w' h => fixed_any S w' h
  have HAB : Hid (I64 a ∧ I64 b) := ⟨ha, hb⟩
  have HC : Hid (Chg (fun _ => False) w w) := Chg.refl _ _
  clear hT ha hb
  go_enter Tryd.func3, Tryd.ntmps3
  go_wp2_with fail
  go_loopw [5] (fun v1 wr => ∃ i : Nat, i ≤ 63 ∧ v1 = .int .i64 (i : Int) ∧ Tab wr ∧ Chg (fun _ => False) w wr) (fun v1 _ => 63 - (intOf v1).toNat)
  case atStart => exact ⟨0, Nat.zero_le _, rfl, HT.out, HC.out⟩
  case round =>
    obtain ⟨i, hi, rfl, hT, hC⟩ := hrel
    have HT1 : Hid _ := hT
    have HC1 : Hid _ := hC
    clear hT hC HT HC
    have hii : (i : Int) ≤ 63 := by omega
    by_cases hin : i < 63
    · have hd3 : decide ((i : Int) < 63) = true := by simp; omega
      have hd3' : decide (i < 63) = true := decide_eq_true hin
      have HRI : Hid _ := HR.out i wr (by omega) HT1.out
      have HRJ : Hid (∀ w', Tab w' → _) := fun w' h => HR.out (i + 1) w' (by omega) h
      have hb30 := bitsN_le (i := i) (by omega)
      have hl := least_le (i := i) (by omega)
      have hl2 := least_le (i := i + 1) (by omega)
      have HL : Hid (least (i + 1) = least i + 2 ^ bitsN i) := rfl
      obtain ⟨bt, hbt⟩ : ∃ bt, bitsN i = bt := ⟨_, rfl⟩
      rw [hbt] at HRI HL hb30
      obtain ⟨bu, hbu⟩ : ∃ bu, bitsN (i + 1) = bu := ⟨_, rfl⟩
      rw [hbu] at HRJ
      obtain ⟨ls, hls⟩ : ∃ ls, least i = ls := ⟨_, rfl⟩
      rw [hls] at HL hl HRI
      obtain ⟨nx, hnx⟩ : ∃ nx, least (i + 1) = nx := ⟨_, rfl⟩
      rw [hnx] at HL hl2 HRJ
      have hpw : 2 ^ bt ≤ 1073741824 := by
        have := Nat.pow_le_pow_right (n := 2) (by omega) hb30
        simpa using this
      rw [show ((i + 1 : Nat) : Int) = (i : Int) + 1 by omega] at HRJ
      have hd4 : decide ((bt : Int) < 0) = false := by simp
      have hd5 : decide ((30 : Int) < (bt : Int)) = false := by simp; omega
      have hd5' : decide (30 < bt) = false := by simp; omega
      have hq : ((nx : Int) != wrap64 ((ls : Int) + wrap64 (2 ^ bt))) = false := by
        rw [pow_int, wrap_two hl hpw, ← HL.out]
        simp
      clear hbt hls hbu hnx HR HFX
      go_wp2_with fail
      refine Calls.mono HRI.out ?_
      rintro z w2 ⟨rfl, c2⟩
      have HT2 : Hid (Tab w2) := S.keep HT1.out c2
      have HC2 : Hid (Chg (fun _ => False) w w2) := chg_then HC1.out c2
      clear HRI c2 HT1 HC1
      go_wp2_with fail
      refine Calls.mono (HRJ.out _ HT2.out) ?_
      rintro z w3 ⟨rfl, c3⟩
      have HT3 : Hid (Tab w3) := S.keep HT2.out c3
      have HC3 : Hid (Chg (fun _ => False) w w3) := chg_then HC2.out c3
      clear HRJ c3 HT2 HC2
      go_wp2_with fail
      exact ⟨⟨i + 1, by omega, by go_num, HT3.out, HC3.out⟩, by simp [intOf]; omega⟩
    · have hd3 : decide ((i : Int) < 63) = false := by simp; omega
      have hd3' : decide (i < 63) = false := decide_eq_false hin
      clear hin hi hii
      have hra := HAB.out.1
      have hrb := HAB.out.2
      have hra1 := hra.1
      have hra2 := hra.2
      have hrb1 := hrb.1
      have hrb2 := hrb.2
      by_cases ha1 : a < 1
      · have hd4 : decide (a < 1) = true := decide_eq_true ha1
        clear HR
        go_wp2_with fail
        refine Calls.mono (HFX.out _ HT1.out) ?_
        rintro z w2 ⟨rfl, c2⟩
        have HC2 : Hid (Chg (fun _ => False) w w2) := chg_then HC1.out c2
        clear HFX c2 HT1 HC1
        go_wp2
        go_ret
        exact ⟨rfl, HC2.out⟩
      have hd4 : decide (a < 1) = false := decide_eq_false ha1
      by_cases hba : b < a
      · have hd5 : decide (b < a) = true := decide_eq_true hba
        clear HR
        go_wp2_with fail
        refine Calls.mono (HFX.out _ HT1.out) ?_
        rintro z w2 ⟨rfl, c2⟩
        have HC2 : Hid (Chg (fun _ => False) w w2) := chg_then HC1.out c2
        clear HFX c2 HT1 HC1
        go_wp2
        go_ret
        exact ⟨rfl, HC2.out⟩
      have hd5 : decide (b < a) = false := decide_eq_false hba
      by_cases hbm : 4294967295 < b
      · have hd6 : decide (4294967295 < b) = true := decide_eq_true hbm
        clear HR
        go_wp2_with fail
        refine Calls.mono (HFX.out _ HT1.out) ?_
        rintro z w2 ⟨rfl, c2⟩
        have HC2 : Hid (Chg (fun _ => False) w w2) := chg_then HC1.out c2
        clear HFX c2 HT1 HC1
        go_wp2
        go_ret
        exact ⟨rfl, HC2.out⟩
      have hd6 : decide (4294967295 < b) = false := decide_eq_false hbm
      obtain ⟨m, hm⟩ : ∃ m : Nat, a = (m : Int) := ⟨a.toNat, by omega⟩
      obtain ⟨n, hn⟩ : ∃ n : Nat, b = (n : Int) := ⟨b.toNat, by omega⟩
      have m1 : 1 ≤ m := by omega
      have m2 : m ≤ 4294967295 := by omega
      have n1 : 1 ≤ n := by omega
      have n2 : n ≤ 4294967295 := by omega
      have HA : Hid _ := S.slot a wr HT1.out hra
      rw [hm, slot_in m1 m2, ← hm] at HA
      have HB : Hid (∀ w', Tab w' → Calls Tryd.prog 11 #[.int .i64 b] w' fun e w'' => e = .returned (.tuple #[.int .i64 (slotN n : Int), .int .i64 0]) ∧ Chg (fun _ => False) w' w'') := fun w' h => by
        have := S.slot b w' h hrb
        rw [hn, slot_in n1 n2, ← hn] at this
        exact this
      have hmono := slotN_mono m1 (show m ≤ n by omega)
      have hlt := slotN_lt m1
      have hle := slotN_le m1
      have htop := slotN_top m1 m2
      have hb30 := bitsN_le hlt
      have hll : 1 ≤ least (slotN m) := least_mono (Nat.zero_le (slotN m))
      have hself : slotN (least (slotN m)) = slotN m := slotN_is hlt (Nat.le_refl _) (least_lt _)
      have HRX : Hid (∀ w', Tab w' → _) := fun w' h => HR.out (slotN m) w' hlt h
      have HZ : Hid (∀ w', Tab w' → Calls Tryd.prog 11 #[.int .i64 (least (slotN m) : Int)] w' fun e w'' => e = .returned (.tuple #[.int .i64 (slotN m : Int), .int .i64 0]) ∧ Chg (fun _ => False) w' w'') := fun w' h => by
        have := S.slot (least (slotN m) : Int) w' h ⟨by omega, by omega⟩
        rw [slot_in hll (by omega), hself] at this
        exact this
      clear hself HR
      obtain ⟨x, hx⟩ : ∃ x, slotN m = x := ⟨_, rfl⟩
      rw [hx] at HA hmono hlt hle htop hb30 hll HRX HZ
      obtain ⟨y, hy⟩ : ∃ y, slotN n = y := ⟨_, rfl⟩
      rw [hy] at HB hmono
      obtain ⟨bt, hbt⟩ : ∃ bt, bitsN x = bt := ⟨_, rfl⟩
      rw [hbt] at htop hb30 HRX
      obtain ⟨ls, hls⟩ : ∃ ls, least x = ls := ⟨_, rfl⟩
      rw [hls] at hle htop hll HRX HZ
      have hpw : 2 ^ bt ≤ 1073741824 := by
        have := Nat.pow_le_pow_right (n := 2) (by omega) hb30
        simpa using this
      have e1 : decide ((y : Int) < (x : Int)) = false := by simp; omega
      have e1' : decide (y < x) = false := by simp; omega
      have e2 : decide (a < (ls : Int)) = false := by simp; omega
      have e3 : decide (wrap64 (2 ^ bt) ≤ a - (ls : Int)) = false := by
        rw [pow_int, wrap_one hpw]
        simp only [decide_eq_false_iff_not]
        generalize 2 ^ bt = P at *
        omega
      have e4 : ((x : Int) == (x : Int)) = true := by simp
      have e4' : (x == x) = true := by simp
      have l1 : (ls : Int) ≤ a := by omega
      have l2 : (0 : Int) ≤ (ls : Int) := by omega
      have l3 : a ≤ 4294967295 := by omega
      clear hx hy hbt hls htop hpw hm hn m1 m2 n1 n2 hmono hle hll hra hrb
      go_wp2_with fail
      refine Calls.mono HA.out ?_
      rintro z w2 ⟨rfl, c2⟩
      have HT2 : Hid (Tab w2) := S.keep HT1.out c2
      have HC2 : Hid (Chg (fun _ => False) w w2) := chg_then HC1.out c2
      clear HA c2 HT1 HC1
      go_wp2_with fail
      refine Calls.mono (HB.out _ HT2.out) ?_
      rintro z w3 ⟨rfl, c3⟩
      have HT3 : Hid (Tab w3) := S.keep HT2.out c3
      have HC3 : Hid (Chg (fun _ => False) w w3) := chg_then HC2.out c3
      clear HB c3 HT2 HC2
      go_wp2_with fail
      refine Calls.mono (HRX.out _ HT3.out) ?_
      rintro z w4 ⟨rfl, c4⟩
      have HT4 : Hid (Tab w4) := S.keep HT3.out c4
      have HC4 : Hid (Chg (fun _ => False) w w4) := chg_then HC3.out c4
      clear HRX c4 HT3 HC3
      go_wp2_with fail
      refine Calls.mono (HZ.out _ HT4.out) ?_
      rintro z w5 ⟨rfl, c5⟩
      have HT5 : Hid (Tab w5) := S.keep HT4.out c5
      have HC5 : Hid (Chg (fun _ => False) w w5) := chg_then HC4.out c5
      clear HZ c5 HT4 HC4
      go_wp2_with fail
      refine Calls.mono (HFX.out _ HT5.out) ?_
      rintro z w6 ⟨rfl, c6⟩
      have HC6 : Hid (Chg (fun _ => False) w w6) := chg_then HC5.out c6
      clear HFX c6 HT5 HC5
      go_wp2
      go_ret
      exact ⟨rfl, HC6.out⟩
end Go.Proofs.YtkochonjfjlhpaaDoor
