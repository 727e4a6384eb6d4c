/- Dictionaries: the walk of ChunkDicts; of no statement by itself. -/
import Derived.Test.YtannepoclpmedaaDoorCs
namespace Go.Proofs.YtannepoclpmedaaDoor
open Go.RowKit
open St12
set_option linter.unusedVariables false
set_option linter.unusedSimpArgs false
variable {Tab : World → Prop}
namespace Ck17
theorem byteD_in {b : Nat} (h : b ≤ 40) : byteD (b : Int) = (((dic b : Nat) : Int), 0) := by
  unfold byteD
  rw [if_neg (by omega), if_neg (by omega), Int.toNat_natCast]
theorem dictB_dic {b : Nat} (h : b ≤ 40) : dictB ((dic b : Nat) : Int) = (((b : Nat) : Int), 0) := by
  have := dic_rng b (by omega)
  unfold dictB
  rw [if_neg (by omega), Int.toNat_natCast, dic_back b (by omega)]
theorem dictB_in {n : Int} (h1 : 0 ≤ n) (h2 : n ≤ 4294967295) : ∃ b : Nat, dictB n = (((b : Nat) : Int), 0) ∧ b ≤ 40 ∧ n ≤ ((dic b : Nat) : Int) ∧ (0 < b → ((dic (b - 1) : Nat) : Int) < n) := by
  obtain ⟨_, k2, k3, k4⟩ := dbF_spec n.toNat 40 0 rfl
  refine ⟨dbF n.toNat 0 40, by unfold dictB; rw [if_neg (by omega)], k2, by have := k3 (by omega); omega, fun h => ?_⟩
  have := k4 (dbF n.toNat 0 40 - 1) (by omega) (by omega)
  omega
end Ck17
set_option maxHeartbeats 4000000 in
set_option maxRecDepth 100000 in
theorem dicts_any (S : ChunkSpec Tab) (n : Int) (hn : I64 n) (w0 : World) (hT : Tab w0) : Calls Tryd.prog 5 #[.int .i64 n] w0 fun e w' => e = .returned (.bool true) ∧ Chg (fun _ => False) w0 w' := by
  have HT : Hid (Tab w0) := hT
  have HN : Hid (∀ x ww, Calls Tryd.prog 10 #[.int .i64 x] ww fun e w' => e = .returned (.int .i64 x) ∧ w' = ww) := num_q
  have HNI : Hid (I64 n) := hn
  clear hT
  go_enter Tryd.func5, Tryd.ntmps5
  go_wp2_with fail
  go_loopw [3, 4] (fun v3 v4 wr => ∃ (b last : Nat), b ≤ 41 ∧ v3 = .int .i64 (last : Int) ∧ v4 = .int .i64 (b : Int) ∧ (last : Int) ≤ 4294967295 ∧ Hid ((b ≤ 40 → last < Ck17.dic b) ∧ Chg (fun _ => False) w0 wr)) (fun _ v4 _ => 41 - (intOf v4).toNat)
  case atStart => exact ⟨0, 0, by omega, rfl, rfl, by omega, fun _ => (Ck17.dic_rng 0 (by omega)).1, Chg.refl _ _⟩
  case round =>
    obtain ⟨b, last, hb, rfl, rfl, hl9, HI⟩ := hrel
    by_cases hb4 : b ≤ 40
    · have d1 : decide ((b : Int) ≤ 40) = true := by simp; omega
      have d1' : decide (b ≤ 40) = true := decide_eq_true hb4
      have HB : Hid _ := S.bd (b : Int) wr (S.keep HT.out HI.out.2) ⟨by omega, by omega⟩
      rw [Ck17.byteD_in hb4] at HB
      have hrg := Ck17.dic_rng b (by omega)
      have HD : Hid (∀ ww, Chg (fun _ => False) w0 ww → Calls Tryd.prog 14 #[.int .i64 ((Ck17.dic b : Nat) : Int)] ww fun e w' => e = .returned (.tuple #[.int .i64 ((b : Nat) : Int), .int .i64 0]) ∧ Chg (fun _ => False) ww w') := fun ww hc => by
        have h9 := S.db ((Ck17.dic b : Nat) : Int) ww (S.keep HT.out hc) ⟨by omega, by omega⟩
        rw [Ck17.dictB_dic hb4] at h9
        exact h9
      have hlt := HI.out.1 hb4
      have HUP : Hid (b + 1 ≤ 40 → Ck17.dic b < Ck17.dic (b + 1)) := fun h => Ck17.dic_up b (by omega)
      have HC : Hid (Chg (fun _ => False) w0 wr) := HI.out.2
      clear HI
      generalize Ck17.dic b = D at *
      have hle : decide ((D : Int) ≤ (last : Int)) = false := by simp; omega
      have hle' : decide (D ≤ last) = false := by simp; omega
      have hbb : ((b : Int) != (b : Int)) = false := by simp
      have hD9 : (D : Int) ≤ 4294967295 := by omega
      clear hlt hrg
      go_wp2_with fail
      refine Calls.mono HB.out ?_
      rintro z w1 ⟨rfl, c1⟩
      have HC1 : Hid (Chg (fun _ => False) w0 w1) := chg_then HC.out c1
      clear c1 HB HC
      go_wp2_with fail
      refine Calls.mono (HD.out _ HC1.out) ?_
      rintro z w2 ⟨rfl, c2⟩
      have HC2 : Hid (Chg (fun _ => False) w0 w2) := chg_then HC1.out c2
      clear c2 HD HC1
      go_wp2_with fail
      refine Calls.mono (HN.out _ _) ?_
      rintro z w4 ⟨rfl, rfl⟩
      go_wp2_with fail
      refine Calls.mono (HN.out _ _) ?_
      rintro z w4 ⟨rfl, rfl⟩
      go_wp2_with fail
      exact ⟨⟨b + 1, D, by omega, rfl, by go_num, hD9, HUP.out, HC2.out⟩, by simp [intOf]; omega⟩
    · have d1 : decide ((b : Int) ≤ 40) = false := by simp; omega
      have d1' : decide (b ≤ 40) = false := decide_eq_false hb4
      have HC : Hid (Chg (fun _ => False) w0 wr) := HI.out.2
      have HDB : Hid _ := S.db n wr (S.keep HT.out HI.out.2) HNI.out
      clear HI
      by_cases hin : 0 ≤ n ∧ n ≤ 4294967295
      rotate_left
      · have hA : Ck17.dictB n = (0, 7) := by unfold Ck17.dictB; rw [if_pos (by omega)]
        rw [hA] at HDB
        simp only at HDB
        have HK : Hid (∀ ww, Chg (fun _ => False) w0 ww → Calls Tryd.prog 11 #[] ww fun e w' => e = .returned (.bool true) ∧ Chg (fun _ => False) ww w') := fun ww hc => known17_any S ww (S.keep HT.out hc)
        clear hA
        go_wp2_with fail
        refine Calls.mono HDB.out ?_
        rintro z w1 ⟨rfl, c1⟩
        have HC1 : Hid (Chg (fun _ => False) w0 w1) := chg_then HC.out c1
        clear c1 HDB HC
        by_cases h0 : n < 0
        · have d2 : decide (n < 0) = true := decide_eq_true h0
          clear hin h0
          go_wp2_with fail
          refine Calls.mono (HN.out _ _) ?_
          rintro z w4 ⟨rfl, rfl⟩
          go_wp2_with fail
          refine Calls.mono (HK.out _ HC1.out) ?_
          rintro z w5 ⟨rfl, c5⟩
          have HC5 : Hid (Chg (fun _ => False) w0 w5) := chg_then HC1.out c5
          clear c5
          go_wp2
          go_ret
          exact ⟨rfl, HC5.out⟩
        · have d2 : decide (n < 0) = false := decide_eq_false h0
          have d3 : decide (4294967295 < n) = true := by simp; omega
          clear hin h0
          go_wp2_with fail
          refine Calls.mono (HN.out _ _) ?_
          rintro z w4 ⟨rfl, rfl⟩
          go_wp2_with fail
          refine Calls.mono (HK.out _ HC1.out) ?_
          rintro z w5 ⟨rfl, c5⟩
          have HC5 : Hid (Chg (fun _ => False) w0 w5) := chg_then HC1.out c5
          clear c5
          go_wp2
          go_ret
          exact ⟨rfl, HC5.out⟩
      · obtain ⟨q, hA, hq, hle, hlow⟩ := Ck17.dictB_in hin.1 hin.2
        rw [hA] at HDB
        simp only at HDB
        have hrg := Ck17.dic_rng q (by omega)
        have HBD : Hid (∀ ww, Chg (fun _ => False) w0 ww → Calls Tryd.prog 13 #[.int .i64 ((q : Nat) : Int)] ww fun e w' => e = .returned (.tuple #[.int .i64 ((Ck17.dic q : Nat) : Int), .int .i64 0]) ∧ Chg (fun _ => False) ww w') := fun ww hc => by
          have h9 := S.bd (q : Int) ww (S.keep HT.out hc) ⟨by omega, by omega⟩
          rw [Ck17.byteD_in hq] at h9
          exact h9
        have HBE : Hid (0 < q → ∀ ww, Chg (fun _ => False) w0 ww → Calls Tryd.prog 13 #[.int .i64 ((q : Int) - 1)] ww fun e w' => e = .returned (.tuple #[.int .i64 ((Ck17.dic (q - 1) : Nat) : Int), .int .i64 0]) ∧ Chg (fun _ => False) ww w') := fun h0 ww hc => by
          have h9 := S.bd ((q - 1 : Nat) : Int) ww (S.keep HT.out hc) ⟨by omega, by omega⟩
          rw [Ck17.byteD_in (by omega), show ((q - 1 : Nat) : Int) = (q : Int) - 1 by omega] at h9
          exact h9
        have HK : Hid (∀ ww, Chg (fun _ => False) w0 ww → Calls Tryd.prog 11 #[] ww fun e w' => e = .returned (.bool true) ∧ Chg (fun _ => False) ww w') := fun ww hc => known17_any S ww (S.keep HT.out hc)
        have d2 : decide (n < 0) = false := by simp; omega
        have d3 : decide (4294967295 < n) = false := by simp; omega
        have d4 : decide (((Ck17.dic q : Nat) : Int) < n) = false := by simp; omega
        have HLW : Hid (0 < q → decide (n ≤ ((Ck17.dic (q - 1) : Nat) : Int)) = false) := fun h => by have := hlow h; simp; omega
        have hq9 : (q : Int) ≤ 40 := by omega
        clear hA hle hlow hrg
        go_wp2_with fail
        refine Calls.mono HDB.out ?_
        rintro z w1 ⟨rfl, c1⟩
        have HC1 : Hid (Chg (fun _ => False) w0 w1) := chg_then HC.out c1
        clear c1 HDB HC
        generalize Ck17.dic q = D at *
        go_wp2_with fail
        refine Calls.mono (HBD.out _ HC1.out) ?_
        rintro z w2 ⟨rfl, c2⟩
        have HC2 : Hid (Chg (fun _ => False) w0 w2) := chg_then HC1.out c2
        clear c2 HBD HC1
        go_wp2_with fail
        refine Calls.mono (HN.out _ _) ?_
        rintro z w4 ⟨rfl, rfl⟩
        go_wp2_with fail
        refine Calls.mono (HN.out _ _) ?_
        rintro z w4 ⟨rfl, rfl⟩
        by_cases hq0 : 0 < q
        · have d5 : decide (0 < (q : Int)) = true := by simp; omega
          have d5' : decide (0 < q) = true := decide_eq_true hq0
          have d6 := HLW.out hq0
          have HBF : Hid _ := HBE.out hq0 _ HC2.out
          generalize Ck17.dic (q - 1) = E at *
          clear HLW HBE
          go_wp2_with fail
          refine Calls.mono HBF.out ?_
          rintro z w5 ⟨rfl, c5⟩
          have HC5 : Hid (Chg (fun _ => False) w0 w5) := chg_then HC2.out c5
          clear c5 HBF HC2
          go_wp2_with fail
          refine Calls.mono (HN.out _ _) ?_
          rintro z w6 ⟨rfl, rfl⟩
          go_wp2_with fail
          refine Calls.mono (HK.out _ HC5.out) ?_
          rintro z w7 ⟨rfl, c7⟩
          have HC7 : Hid (Chg (fun _ => False) w0 w7) := chg_then HC5.out c7
          clear c7
          go_wp2
          go_ret
          exact ⟨rfl, HC7.out⟩
        · have d5 : decide (0 < (q : Int)) = false := by simp; omega
          have d5' : decide (0 < q) = false := decide_eq_false hq0
          clear HLW HBE
          go_wp2_with fail
          refine Calls.mono (HK.out _ HC2.out) ?_
          rintro z w7 ⟨rfl, c7⟩
          have HC7 : Hid (Chg (fun _ => False) w0 w7) := chg_then HC2.out c7
          clear c7
          go_wp2
          go_ret
          exact ⟨rfl, HC7.out⟩
end Go.Proofs.YtannepoclpmedaaDoor
