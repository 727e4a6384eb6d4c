/- The dictionaries that bytes tell: the program's and the document's answers; of no statement by themselves. -/
import Derived.Test.YtmkiohnabbfkcaaDoorCm
import Derived.Test.YtmkiohnabbfkcaaDoorBy
import Derived.Test.YtmkiohnabbfkcaaDoorLastQ
import Derived.Deep.DeepCutAuto
import Derived.BigQuiet
namespace Go.Proofs.YtmkiohnabbfkcaaDoor
open Go.RowKit
open St12
set_option linter.unusedVariables false
set_option linter.unusedSimpArgs false
namespace Ck17
theorem byteD_in {b : Nat} (h : b ≤ 40) : byteD (b : Int) = (((dic b : Nat) : Int), 0) := by
  unfold byteD
  rw [if_neg (by omega), if_neg (by omega), Int.toNat_natCast]
end Ck17
namespace Ck17
theorem dictB_in {n : Int} (h1 : 0 ≤ n) (h2 : n ≤ 4294967295) : ∃ b : Nat, dictB n = (((b : Nat) : Int), 0) ∧ b ≤ 40 ∧ n ≤ ((dic b : Nat) : Int) ∧ (0 < b → ((dic (b - 1) : Nat) : Int) < n) := by
  obtain ⟨_, k2, k3, k4⟩ := dbF_spec n.toNat 40 0 rfl
  refine ⟨dbF n.toNat 0 40, by unfold dictB; rw [if_neg (by omega)], k2, by have := k3 (by omega); omega, fun h => ?_⟩
  have := k4 (dbF n.toNat 0 40 - 1) (by omega) (by omega)
  omega
end Ck17
theorem shl_fit : ∀ (M : Fin 2) (D : Fin 20), wrap64 ((2 + (M.val : Int)) * 2 ^ (D.val + 11)) = (((2 + M.val) * 2 ^ (D.val + 11) : Nat) : Int) := by decide +kernel
set_option maxHeartbeats 2000000 in
theorem told17_q (B : Nat) (hB : B ≤ 40) (w : World) : Calls Tryd.prog 40 #[.int .i64 (B : Int)] w fun e w' => e = .returned (.int .i64 ((Ck17.dic B : Nat) : Int)) ∧ w = w' := by
  by_cases h3 : B = 40
  · subst h3
    go_enter Tryd.func40, Tryd.ntmps40
    go_wp2
    go_ret
    exact ⟨rfl, rfl⟩
  · have e3 : ((B : Int) == 40) = false := by simp; omega
    have hB9 : B < 40 := by omega
    obtain ⟨M, hM⟩ : ∃ M, B % 2 = M := ⟨_, rfl⟩
    obtain ⟨D, hD⟩ : ∃ D, B / 2 = D := ⟨_, rfl⟩
    have t1 : (B : Int).tmod 2 = (M : Int) := by rw [← hM]; rfl
    have t2 : (B : Int).tdiv 2 = (D : Int) := by rw [← hD]; rfl
    have HA : Hid (((Ck17.dic B : Nat) : Int) = wrap64 ((2 + (M : Int)) * 2 ^ (D + 11))) := by
      show _ = _
      rw [shl_fit ⟨M, by omega⟩ ⟨D, by omega⟩]
      unfold Ck17.dic
      rw [if_neg h3, hM, hD]
    have hM9 : (M : Int) ≤ 1 := by omega
    have hD9 : (D : Int) ≤ 19 := by omega
    have hBi : (B : Int) < 40 := by omega
    clear hM hD h3 hB9 hB
    rw [HA.out]
    go_enter Tryd.func40, Tryd.ntmps40
    go_wp2
    go_ret
    exact ⟨rfl, rfl⟩
set_option maxHeartbeats 2000000 in
theorem bd17_any (b : Int) (hb : I64 b) (w : World) : Calls Tryd.prog 44 #[.int .i64 b] w fun e w' => e = .returned (.tuple #[.int .i64 (Ck17.byteD b).1, .int .i64 (Ck17.byteD b).2]) ∧ w = w' := by
  by_cases h0 : b < 0
  · have d0 : decide (b < 0) = true := decide_eq_true h0
    have HA : Hid (Ck17.byteD b = (0, 7)) := by show _ = _; unfold Ck17.byteD; rw [if_pos (by omega)]
    clear h0
    go_enter Tryd.func44, Tryd.ntmps44
    go_wp2
    go_ret2
    exact ⟨by rw [HA.out]; rfl, rfl⟩
  have d0 : decide (b < 0) = false := decide_eq_false h0
  by_cases h1 : 255 < b
  · have d1 : decide (255 < b) = true := decide_eq_true h1
    have HA : Hid (Ck17.byteD b = (0, 7)) := by show _ = _; unfold Ck17.byteD; rw [if_pos (by omega)]
    clear h0 h1
    go_enter Tryd.func44, Tryd.ntmps44
    go_wp2
    go_ret2
    exact ⟨by rw [HA.out]; rfl, rfl⟩
  have d1 : decide (255 < b) = false := decide_eq_false h1
  by_cases h2 : 40 < b
  · have d2 : decide (40 < b) = true := decide_eq_true h2
    have HA : Hid (Ck17.byteD b = (0, 4)) := by show _ = _; unfold Ck17.byteD; rw [if_neg (by omega), if_pos h2]
    clear h0 h1 h2
    go_enter Tryd.func44, Tryd.ntmps44
    go_wp2
    go_ret2
    exact ⟨by rw [HA.out]; rfl, rfl⟩
  have d2 : decide (40 < b) = false := decide_eq_false h2
  obtain ⟨B, rfl⟩ : ∃ B : Nat, (B : Int) = b := ⟨b.toNat, by omega⟩
  have HT : Hid _ := told17_q B (by omega) w
  have HA : Hid (Ck17.byteD (B : Int) = (((Ck17.dic B : Nat) : Int), 0)) := Ck17.byteD_in (by omega)
  generalize Ck17.dic B = D at *
  clear h0 h1 h2
  go_enter Tryd.func44, Tryd.ntmps44
  go_wp2_with fail
  refine Calls.mono HT.out ?_
  rintro z w1 ⟨rfl, rfl⟩
  clear HT
  go_wp2
  go_ret2
  exact ⟨by rw [HA.out]; rfl, rfl⟩
set_option maxHeartbeats 4000000 in
set_option maxRecDepth 100000 in
theorem db17_any (n : Int) (hn : I64 n) (w : World) : Calls Tryd.prog 29 #[.int .i64 n] w fun e w' => e = .returned (.tuple #[.int .i64 (Ck17.dictB n).1, .int .i64 (Ck17.dictB n).2]) ∧ Chg (fun _ => False) w w' := by
  by_cases h0 : n < 0
  · have d0 : decide (n < 0) = true := decide_eq_true h0
    have HA : Hid (Ck17.dictB n = (0, 7)) := by show _ = _; unfold Ck17.dictB; rw [if_pos (by omega)]
    clear h0
    go_enter Tryd.func29, Tryd.ntmps29
    go_wp2
    go_ret2
    exact ⟨by rw [HA.out]; rfl, Chg.refl _ _⟩
  have d0 : decide (n < 0) = false := decide_eq_false h0
  by_cases h1 : 4294967295 < n
  · have d1 : decide (4294967295 < n) = true := decide_eq_true h1
    have HA : Hid (Ck17.dictB n = (0, 7)) := by show _ = _; unfold Ck17.dictB; rw [if_pos (by omega)]
    clear h0 h1
    go_enter Tryd.func29, Tryd.ntmps29
    go_wp2
    go_ret2
    exact ⟨by rw [HA.out]; rfl, Chg.refl _ _⟩
  have d1 : decide (4294967295 < n) = false := decide_eq_false h1
  obtain ⟨Q, hA, hQ, hle, hlow⟩ := Ck17.dictB_in (n := n) (by omega) (by omega)
  have HA : Hid (Ck17.dictB n = (((Q : Nat) : Int), 0)) := hA
  have HQ : Hid (Q ≤ 40 ∧ n ≤ ((Ck17.dic Q : Nat) : Int)) := ⟨hQ, hle⟩
  have HLO : Hid (∀ j, j < Q → ((Ck17.dic j : Nat) : Int) < n) := fun j hj => by
    have hk := hlow (by omega)
    have : ∀ m, j ≤ m → m ≤ 40 → Ck17.dic j ≤ Ck17.dic m := fun m hm => by
      induction hm with
      | refl => intro _; exact Nat.le_refl _
      | step h ih => intro h9; exact Nat.le_trans (ih (by omega)) (Nat.le_of_lt (Ck17.dic_up _ (by omega)))
    have := this (Q - 1) (by omega) (by omega)
    omega
  have HBD : Hid (∀ b : Nat, b ≤ 40 → ∀ ww, Calls Tryd.prog 40 #[.int .i64 (b : Int)] ww fun e w' => e = .returned (.int .i64 ((Ck17.dic b : Nat) : Int)) ∧ ww = w') := told17_q
  have hQi : (Q : Int) ≤ 40 := by omega
  clear hA hQ hle hlow h0 h1
  go_enter Tryd.func29, Tryd.ntmps29
  go_wp2_with fail
  go_loopw [4] (fun v4 wr => ∃ b : Nat, b ≤ Q ∧ v4 = .int .i64 (b : Int) ∧ Chg (fun _ => False) w wr) (fun v4 _ => 41 - (intOf v4).toNat)
  case atStart => exact ⟨0, by omega, rfl, Chg.refl _ _⟩
  case round =>
    obtain ⟨b, hb, rfl, hcc⟩ := hrel
    have hbi : (b : Int) ≤ 40 := by omega
    have HC : Hid (Chg (fun _ => False) w wr) := hcc
    clear hcc
    have HB : Hid _ := HBD.out b (by omega) wr
    by_cases hbq : b = Q
    · subst hbq
      have d5 : decide (((Ck17.dic b : Nat) : Int) < n) = false := decide_eq_false (by have := HQ.out.2; omega)
      generalize Ck17.dic b = D at *
      clear HBD HLO HQ
      go_wp2_with fail
      refine Calls.mono HB.out ?_
      rintro z w1 ⟨rfl, rfl⟩
      clear HB
      go_wp2
      go_ret2
      exact ⟨by rw [HA.out]; rfl, HC.out⟩
    · have d5 : decide (((Ck17.dic b : Nat) : Int) < n) = true := decide_eq_true (HLO.out b (by omega))
      generalize Ck17.dic b = D at *
      go_wp2_with fail
      refine Calls.mono HB.out ?_
      rintro z w1 ⟨rfl, rfl⟩
      clear HB
      go_wp2
      go_roundw
      case rel => exact ⟨b + 1, by omega, by go_num, HC.out⟩
      case measure => simp [intOf]; omega
set_option maxHeartbeats 4000000 in
set_option maxRecDepth 100000 in
theorem rbd17_any (b : Int) (hb : I64 b) (w : World) : Calls Tryd.prog 25 #[.int .i64 b] w fun e w' => e = .returned (.tuple #[.int .i64 (Ck17.byteD b).1, .int .i64 (Ck17.byteD b).2]) ∧ w = w' := by
  by_cases h0 : b < 0
  · have d0 : decide (b < 0) = true := decide_eq_true h0
    have HA : Hid (Ck17.byteD b = (0, 7)) := by show _ = _; unfold Ck17.byteD; rw [if_pos (by omega)]
    clear h0
    go_enter Tryd.func25, Tryd.ntmps25
    go_wp2
    go_ret2
    exact ⟨by rw [HA.out]; rfl, rfl⟩
  have d0 : decide (b < 0) = false := decide_eq_false h0
  by_cases h1 : 255 < b
  · have d1 : decide (255 < b) = true := decide_eq_true h1
    have HA : Hid (Ck17.byteD b = (0, 7)) := by show _ = _; unfold Ck17.byteD; rw [if_pos (by omega)]
    clear h0 h1
    go_enter Tryd.func25, Tryd.ntmps25
    go_wp2
    go_ret2
    exact ⟨by rw [HA.out]; rfl, rfl⟩
  have d1 : decide (255 < b) = false := decide_eq_false h1
  by_cases h2 : 40 < b
  · have d2 : decide (40 < b) = true := decide_eq_true h2
    have HA : Hid (Ck17.byteD b = (0, 4)) := by show _ = _; unfold Ck17.byteD; rw [if_neg (by omega), if_pos h2]
    clear h0 h1 h2
    go_enter Tryd.func25, Tryd.ntmps25
    go_wp2
    go_ret2
    exact ⟨by rw [HA.out]; rfl, rfl⟩
  have d2 : decide (40 < b) = false := decide_eq_false h2
  obtain ⟨B, rfl⟩ : ∃ B : Nat, (B : Int) = b := ⟨b.toNat, by omega⟩
  by_cases h3 : B = 40
  · subst h3
    have HA : Hid (Ck17.byteD ((40 : Nat) : Int) = (4294967295, 0)) := Ck17.byteD_in (Nat.le_refl _)
    clear h0 h1 h2 d0 d1 d2 hb
    go_enter Tryd.func25, Tryd.ntmps25
    go_wp2
    go_ret2
    exact ⟨by rw [HA.out]; rfl, rfl⟩
  · have e3 : ((B : Int) == 40) = false := by simp; omega
    have hB9 : B < 40 := by omega
    obtain ⟨M, hM⟩ : ∃ M, B % 2 = M := ⟨_, rfl⟩
    obtain ⟨D, hD⟩ : ∃ D, B / 2 = D := ⟨_, rfl⟩
    have t1 : (B : Int).tmod 2 = (M : Int) := by rw [← hM]; rfl
    have t2 : (B : Int).tdiv 2 = (D : Int) := by rw [← hD]; rfl
    have HA : Hid (Ck17.byteD (B : Int) = ((((2 + M) * 2 ^ (D + 11) : Nat) : Int), 0)) := by show _ = _; rw [Ck17.byteD_in (by omega)]; unfold Ck17.dic; rw [if_neg h3, hM, hD]
    have hM9 : (M : Int) ≤ 1 := by omega
    have hD9 : (D : Int) ≤ 19 := by omega
    have HDN : Hid (D ≤ 19 ∧ M ≤ 1) := ⟨by omega, by omega⟩
    have hBi : (B : Int) < 40 := by omega
    clear h0 h1 h2 hb hM hD h3 hB9
    go_enter Tryd.func25, Tryd.ntmps25
    go_wp2_with fail
    go_loopw [4, 5] (fun v4 v5 wr => ∃ i d : Nat, i ≤ D + 11 ∧ v4 = .int .i64 (d : Int) ∧ v5 = .int .i64 (i : Int) ∧ (d : Int) ≤ 4294967295 ∧ Hid (d = (2 + M) * 2 ^ i) ∧ w = wr) (fun _ v5 _ => D + 11 - (intOf v5).toNat)
    case atStart => exact ⟨0, 2 + M, by omega, by go_num, rfl, by omega, by simp [Hid], rfl⟩
    case round =>
      obtain ⟨i, d, hi, rfl, rfl, hd9, HI, rfl⟩ := hrel
      by_cases hin : i < D + 11
      · have d5 : decide ((i : Int) < (D : Int) + 11) = true := decide_eq_true (by omega)
        have d5' : decide (i < D + 11) = true := decide_eq_true hin
        have HN : Hid (2 * d = (2 + M) * 2 ^ (i + 1)) := by show _ = _; rw [HI.out, Nat.pow_succ]; ac_rfl
        have h9 : ((2 * d : Nat) : Int) ≤ 4294967295 := by
          have e1 := HN.out
          have e2 : 2 ^ (i + 1) ≤ 2 ^ 30 := Nat.pow_le_pow_right (by decide) (by have := HDN.out; omega)
          have e3 : (2 + M) * 2 ^ (i + 1) ≤ 3 * 2 ^ 30 := Nat.mul_le_mul (by have := HDN.out; omega) e2
          omega
        have hii : (i : Int) ≤ 30 := by omega
        have h9' : 2 * (d : Int) ≤ 4294967295 := by omega
        clear HI
        go_wp2_with fail
        exact ⟨⟨i + 1, 2 * d, by omega, by go_num, by go_num, h9, HN.out, trivial⟩, by simp [intOf]; omega⟩
      · have d5 : decide ((i : Int) < (D : Int) + 11) = false := decide_eq_false (by omega)
        have d5' : decide (i < D + 11) = false := decide_eq_false hin
        have HE : Hid (((d : Nat) : Int) = (((2 + M) * 2 ^ (D + 11) : Nat) : Int)) := by show _ = _; rw [HI.out, show i = D + 11 by omega]
        have hii : (i : Int) ≤ 30 := by omega
        clear HI
        go_wp2
        go_ret2
        exact ⟨by rw [HA.out, ← HE.out]; rfl, rfl⟩
set_option maxHeartbeats 4000000 in
set_option maxRecDepth 100000 in
theorem rdb17_any (n : Int) (hn : I64 n) (w : World) : Calls Tryd.prog 31 #[.int .i64 n] w fun e w' => e = .returned (.tuple #[.int .i64 (Ck17.dictB n).1, .int .i64 (Ck17.dictB n).2]) ∧ w = w' := by
  by_cases h0 : n < 0
  · have d0 : decide (n < 0) = true := decide_eq_true h0
    have HA : Hid (Ck17.dictB n = (0, 7)) := by show _ = _; unfold Ck17.dictB; rw [if_pos (by omega)]
    clear h0
    go_enter Tryd.func31, Tryd.ntmps31
    go_wp2
    go_ret2
    exact ⟨by rw [HA.out]; rfl, rfl⟩
  have d0 : decide (n < 0) = false := decide_eq_false h0
  by_cases h1 : 4294967295 < n
  · have d1 : decide (4294967295 < n) = true := decide_eq_true h1
    have HA : Hid (Ck17.dictB n = (0, 7)) := by show _ = _; unfold Ck17.dictB; rw [if_pos (by omega)]
    clear h0 h1
    go_enter Tryd.func31, Tryd.ntmps31
    go_wp2
    go_ret2
    exact ⟨by rw [HA.out]; rfl, rfl⟩
  have d1 : decide (4294967295 < n) = false := decide_eq_false h1
  obtain ⟨Q, hA, hQ, hle, hlow⟩ := Ck17.dictB_in (n := n) (by omega) (by omega)
  have HA : Hid (Ck17.dictB n = (((Q : Nat) : Int), 0)) := hA
  have HQ : Hid (Q ≤ 40 ∧ n ≤ ((Ck17.dic Q : Nat) : Int)) := ⟨hQ, hle⟩
  have HLO : Hid (∀ j, j < Q → ((Ck17.dic j : Nat) : Int) < n) := fun j hj => by
    have hk := hlow (by omega)
    have : ∀ m, j ≤ m → m ≤ 40 → Ck17.dic j ≤ Ck17.dic m := fun m hm => by
      induction hm with
      | refl => intro _; exact Nat.le_refl _
      | step h ih => intro h9; exact Nat.le_trans (ih (by omega)) (Nat.le_of_lt (Ck17.dic_up _ (by omega)))
    have := this (Q - 1) (by omega) (by omega)
    omega
  have HBD : Hid (∀ b : Nat, b ≤ 40 → ∀ ww, Calls Tryd.prog 25 #[.int .i64 (b : Int)] ww fun e w' => e = .returned (.tuple #[.int .i64 ((Ck17.dic b : Nat) : Int), .int .i64 0]) ∧ ww = w') := fun b hb ww => by
    have h9 := rbd17_any (b : Int) ⟨by omega, by omega⟩ ww
    rw [Ck17.byteD_in hb] at h9
    exact h9
  have hQi : (Q : Int) ≤ 40 := by omega
  clear hA hQ hle hlow h0 h1
  go_enter Tryd.func31, Tryd.ntmps31
  go_wp2_with fail
  go_loopw [4] (fun v4 wr => ∃ b : Nat, b ≤ Q ∧ v4 = .int .i64 (b : Int) ∧ w = wr) (fun v4 _ => 41 - (intOf v4).toNat)
  case atStart => exact ⟨0, by omega, rfl, rfl⟩
  case round =>
    obtain ⟨b, hb, rfl, rfl⟩ := hrel
    have hbi : (b : Int) ≤ 40 := by omega
    have d4 : decide ((b : Int) ≤ 40) = true := decide_eq_true (by omega)
    have d4' : decide (b ≤ 40) = true := decide_eq_true (by omega)
    have HB : Hid _ := HBD.out b (by omega) w
    by_cases hbq : b = Q
    · subst hbq
      have d5 : decide (n ≤ ((Ck17.dic b : Nat) : Int)) = true := decide_eq_true HQ.out.2
      generalize Ck17.dic b = D at *
      clear HBD HLO HQ
      go_wp2_with fail
      refine Calls.mono HB.out ?_
      rintro z w1 ⟨rfl, rfl⟩
      clear HB
      go_wp2
      go_ret2
      exact ⟨by rw [HA.out]; rfl, rfl⟩
    · have d5 : decide (n ≤ ((Ck17.dic b : Nat) : Int)) = false := decide_eq_false (by have := HLO.out b (by omega); omega)
      generalize Ck17.dic b = D at *
      go_wp2_with fail
      refine Calls.mono HB.out ?_
      rintro z w1 ⟨rfl, rfl⟩
      clear HB
      go_wp2_with fail
      exact ⟨⟨b + 1, by omega, by go_num, trivial⟩, by simp [intOf]; omega⟩
end Go.Proofs.YtmkiohnabbfkcaaDoor
