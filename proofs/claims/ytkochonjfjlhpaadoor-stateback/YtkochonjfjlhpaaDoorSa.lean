/- The document's states; of no statement by itself. -/
import Derived.Test.YtkochonjfjlhpaaDoorSv
namespace Go.Proofs.YtkochonjfjlhpaaDoor
open Go.RowKit
open St12
set_option linter.unusedVariables false
set_option linter.unusedSimpArgs false

theorem rbits_q (i : Nat) (hi : i < 64) (w : World) : Calls Tryd.prog 32 #[.int .i64 (i : Int)] w fun e w' => e = .returned (.int .i64 (bitsN i : Int)) ∧ w' = w := by
  have hii : (i : Int) < 64 := by omega
  by_cases h : i < 4
  · have hd : decide ((i : Int) < 4) = true := by simp; omega
    have hd' : decide (i < 4) = true := decide_eq_true h
    have hb : bitsN i = 0 := by unfold bitsN; rw [if_pos h]
    rw [hb]
    go_enter Tryd.func32, Tryd.ntmps32
    go_wp2
    go_ret
    exact ⟨rfl, rfl⟩
  · have hd : decide ((i : Int) < 4) = false := by simp; omega
    have hd' : decide (i < 4) = false := decide_eq_false h
    have hb : ((bitsN i : Nat) : Int) = (i : Int) / 2 - 1 := by
      unfold bitsN
      rw [if_neg h]
      omega
    rw [hb]
    go_enter Tryd.func32, Tryd.ntmps32
    go_wp2
    go_ret
    exact ⟨rfl, rfl⟩
theorem pow_int (k : Nat) : (2 : Int) ^ k = ((2 ^ k : Nat) : Int) := by simp
set_option maxHeartbeats 1000000 in
theorem rrange_in (n : Nat) (hn : n < 64) (w : World) : Calls Tryd.prog 20 #[.int .i64 (n : Int)] w fun e w' => e = .returned (.tuple #[.int .i64 (least n : Int), .int .i64 (bitsN n : Int), .int .i64 0]) ∧ w' = w := by
  have hni : (n : Int) < 64 := by omega
  have hd1 : decide ((n : Int) < 0) = false := by simp
  have hd2 : decide ((63 : Int) < (n : Int)) = false := by simp; omega
  have hd2' : decide (63 < n) = false := by simp; omega
  have HB : Hid (∀ i : Nat, i < 64 → Calls Tryd.prog 32 #[.int .i64 (i : Int)] w fun e w' => e = .returned (.int .i64 (bitsN i : Int)) ∧ w' = w) := fun i hi => rbits_q i hi w
  go_enter Tryd.func20, Tryd.ntmps20
  go_wp2_with fail
  go_loopw [5, 6] (fun v1 v2 wr => ∃ i : Nat, i ≤ n ∧ v1 = .int .i64 (least i : Int) ∧ v2 = .int .i64 (i : Int) ∧ wr = w) (fun _ v2 _ => n - (intOf v2).toNat)
  case atStart => exact ⟨0, Nat.zero_le _, rfl, rfl, rfl⟩
  case round =>
    obtain ⟨i, hi, rfl, rfl, rfl⟩ := hrel
    have hii : (i : Int) < 64 := by omega
    by_cases hin : i < n
    · have hd3 : decide ((i : Int) < (n : Int)) = true := by simp; omega
      have hd3' : decide (i < n) = true := decide_eq_true hin
      have HBI : Hid _ := HB.out i (by omega)
      have hb30 := bitsN_le (i := i) (by omega)
      have hl := least_le (i := i) (by omega)
      have HL : Hid (least (i + 1) = least i + 2 ^ bitsN i) := rfl
      obtain ⟨bt, hbt⟩ : ∃ bt, bitsN i = bt := ⟨_, rfl⟩
      rw [hbt] at HBI HL hb30
      obtain ⟨ls, hls⟩ : ∃ ls, least i = ls := ⟨_, rfl⟩
      rw [hls] at HL hl ⊢
      have hpw : 2 ^ bt ≤ 1073741824 := by
        have := Nat.pow_le_pow_right (n := 2) (by omega) hb30
        simpa using this
      clear hbt hls
      go_wp2_with fail
      refine Calls.mono HBI.out ?_
      rintro z w2 ⟨rfl, rfl⟩
      clear HBI
      go_wp2_with fail
      refine ⟨⟨i + 1, by omega, ?_, by go_num, trivial⟩, ?_⟩
      · rw [HL.out, pow_int]
        generalize 2 ^ bt = P at *
        congr 1
        unfold wrap64
        omega
      · simp [intOf]
        omega
    · have hd3 : decide ((i : Int) < (n : Int)) = false := by simp; omega
      have hd3' : decide (i < n) = false := decide_eq_false hin
      obtain rfl : i = n := by omega
      have HBI : Hid _ := HB.out i (by omega)
      clear HB
      go_wp2_with fail
      refine Calls.mono HBI.out ?_
      rintro z w2 ⟨rfl, rfl⟩
      clear HBI
      go_wp2
      go_ret3
      exact ⟨rfl, rfl⟩
theorem rrange_any (i : Int) (hi : I64 i) (w : World) : Calls Tryd.prog 20 #[.int .i64 i] w fun e w' => e = .returned (.tuple #[.int .i64 (rangeA i).1, .int .i64 (rangeA i).2.1, .int .i64 (rangeA i).2.2]) ∧ w' = w := by
  by_cases h : 0 ≤ i ∧ i ≤ 63
  · have e : rangeA i = ((least i.toNat : Int), (bitsN i.toNat : Int), 0) := by unfold rangeA; rw [if_pos h]
    rw [e]
    have := rrange_in i.toNat (by omega) w
    rw [show ((i.toNat : Nat) : Int) = i by omega] at this
    exact this
  · have e : rangeA i = (0, 0, 7) := by unfold rangeA; rw [if_neg h]
    rw [e]
    by_cases h0 : i < 0
    · have hd1 : decide (i < 0) = true := decide_eq_true h0
      clear e h
      go_enter Tryd.func20, Tryd.ntmps20
      go_wp2
      go_ret3
      exact ⟨rfl, rfl⟩
    · have hd1 : decide (i < 0) = false := decide_eq_false h0
      have hd2 : decide (63 < i) = true := decide_eq_true (by omega)
      clear e h
      go_enter Tryd.func20, Tryd.ntmps20
      go_wp2
      go_ret3
      exact ⟨rfl, rfl⟩
set_option maxHeartbeats 1000000 in
theorem rslot_in (d : Nat) (h1 : 1 ≤ d) (h2 : d ≤ 4294967295) (w : World) : Calls Tryd.prog 19 #[.int .i64 (d : Int)] w fun e w' => e = .returned (.tuple #[.int .i64 (slotN d : Int), .int .i64 0]) ∧ w' = w := by
  have hdi : (d : Int) ≤ 4294967295 := by omega
  have hd1 : decide ((d : Int) < 1) = false := by simp; omega
  have hd1' : decide (d < 1) = false := by simp; omega
  have hd2 : decide ((4294967295 : Int) < (d : Int)) = false := by simp; omega
  have hd2' : decide (4294967295 < d) = false := by simp; omega
  have HR : Hid (∀ i : Nat, i < 64 → Calls Tryd.prog 20 #[.int .i64 (i : Int)] w fun e w' => e = .returned (.tuple #[.int .i64 (least i : Int), .int .i64 (bitsN i : Int), .int .i64 0]) ∧ w' = w) := fun i hi => rrange_in i hi w
  go_enter Tryd.func19, Tryd.ntmps19
  go_wp2_with fail
  go_loopw [4, 5] (fun v1 v2 wr => ∃ i : Nat, i ≤ 64 ∧ v1 = .int .i64 (slotK d i : Int) ∧ v2 = .int .i64 (i : Int) ∧ wr = w) (fun _ v2 _ => 64 - (intOf v2).toNat)
  case atStart => exact ⟨0, Nat.zero_le _, rfl, rfl, rfl⟩
  case round =>
    obtain ⟨i, hi, rfl, rfl, rfl⟩ := hrel
    have hii : (i : Int) ≤ 64 := by omega
    by_cases hin : i < 64
    · have hd3 : decide ((i : Int) < 64) = true := by simp; omega
      have hd3' : decide (i < 64) = true := decide_eq_true hin
      have HRI : Hid _ := HR.out i hin
      have HS : Hid (slotK d (i + 1) = if least i ≤ d then i else slotK d i) := rfl
      obtain ⟨ls, hls⟩ : ∃ ls, least i = ls := ⟨_, rfl⟩
      rw [hls] at HRI HS
      obtain ⟨bt, hbt⟩ : ∃ bt, bitsN i = bt := ⟨_, rfl⟩
      rw [hbt] at HRI
      obtain ⟨sk, hsk⟩ : ∃ sk, slotK d i = sk := ⟨_, rfl⟩
      rw [hsk] at HS ⊢
      clear hls hbt hsk
      by_cases hle : ls ≤ d
      · have hd4 : decide ((ls : Int) ≤ (d : Int)) = true := by simp; omega
        have hd4' : decide (ls ≤ d) = true := decide_eq_true hle
        rw [if_pos hle] at HS
        go_wp2_with fail
        refine Calls.mono HRI.out ?_
        rintro z w2 ⟨rfl, rfl⟩
        clear HRI
        go_wp2_with fail
        exact ⟨⟨i + 1, by omega, by rw [HS.out], by go_num, trivial⟩, by simp [intOf]; omega⟩
      · have hd4 : decide ((ls : Int) ≤ (d : Int)) = false := by simp; omega
        have hd4' : decide (ls ≤ d) = false := decide_eq_false hle
        rw [if_neg hle] at HS
        go_wp2_with fail
        refine Calls.mono HRI.out ?_
        rintro z w2 ⟨rfl, rfl⟩
        clear HRI
        go_wp2_with fail
        exact ⟨⟨i + 1, by omega, by rw [HS.out], by go_num, trivial⟩, by simp [intOf]; omega⟩
    · have hd3 : decide ((i : Int) < 64) = false := by simp; omega
      have hd3' : decide (i < 64) = false := decide_eq_false hin
      have HI : Hid (i = 64) := by show _ = _; omega
      clear HR
      go_wp2
      go_ret2
      exact ⟨by rw [HI.out]; rfl, rfl⟩
theorem rslot_any (d : Int) (hd : I64 d) (w : World) : Calls Tryd.prog 19 #[.int .i64 d] w fun e w' => e = .returned (.tuple #[.int .i64 (slotA d).1, .int .i64 (slotA d).2]) ∧ w' = w := by
  by_cases h : 1 ≤ d ∧ d ≤ 4294967295
  · have e : slotA d = ((slotN d.toNat : Int), 0) := by unfold slotA; rw [if_pos h]
    rw [e]
    have := rslot_in d.toNat (by omega) (by omega) w
    rw [show ((d.toNat : Nat) : Int) = d by omega] at this
    exact this
  · have e : slotA d = (0, 7) := by unfold slotA; rw [if_neg h]
    rw [e]
    by_cases h0 : d < 1
    · have hd1 : decide (d < 1) = true := decide_eq_true h0
      clear e h
      go_enter Tryd.func19, Tryd.ntmps19
      go_wp2
      go_ret2
      exact ⟨rfl, rfl⟩
    · have hd1 : decide (d < 1) = false := decide_eq_false h0
      have hd2 : decide (4294967295 < d) = true := decide_eq_true (by omega)
      clear e h
      go_enter Tryd.func19, Tryd.ntmps19
      go_wp2
      go_ret2
      exact ⟨rfl, rfl⟩
end Go.Proofs.YtkochonjfjlhpaaDoor
