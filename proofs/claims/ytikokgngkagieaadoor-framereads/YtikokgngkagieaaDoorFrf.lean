/- The document's Kind, ReadHeader and ReadFooter; of no statement by themselves. -/
import Derived.Test.YtikokgngkagieaaDoorFre
namespace Go.Proofs.YtikokgngkagieaaDoor
open Go.RowKit
set_option linter.unusedVariables false
set_option linter.unusedSimpArgs false
theorem sN_idx {xs : List Nat} (hd : Rc.Dig xs) (i : Nat) (hi : i < xs.length) (w : World) : (Instr.index 9 (.string (sN xs)) (.int .i64 (i : Int))).run Tryd.prog w = .ok (.int .u8 ((xs.getD i 0 : Nat) : Int)) w := by
  rw [run_index_string _ _ _ _ _ Tryd.underlying9, dif_pos ⟨by omega, by rw [sN_size]; omega⟩]
  have h1 : xs.getD i 0 < 256 := Fr24.dig_get hd i
  have h2 : xs.getD i 0 = xs[i] := by rw [List.getD_eq_getElem?_getD, List.getElem?_eq_getElem hi]; rfl
  rw [h2] at h1 ⊢
  congr 2
  have h3 : ((i : Int)).toNat = i := by omega
  simp [sN, strOfNums, nums, ByteArray.getElem_eq_getElem_data, Nat.mod_eq_of_lt h1]
theorem take12 (bs : List Nat) {a b : Nat} (h : a + b ≤ 12) : ((bs.take 12).drop a).take b = (bs.drop a).take b := by
  rw [List.drop_take, List.take_take, Nat.min_eq_left (by omega)]
theorem get12 (bs : List Nat) {a : Nat} (h : a < 12) : (bs.take 12).getD a 0 = bs.getD a 0 := by
  rw [List.getD_eq_getElem?_getD, List.getD_eq_getElem?_getD, List.getElem?_take_of_lt h]
theorem rkind_any (k : Int) (w : World) : Calls Tryd.prog 30 #[.int .i64 k] w fun e w' => e = .returned (.bool (Fr24.kind k)) ∧ w' = w := by
  unfold Fr24.kind
  go_enter Tryd.func30, Tryd.ntmps30
  by_cases h0 : k = 0
  · subst h0
    go_wp2
    go_ret
    exact ⟨rfl, rfl⟩
  by_cases h1 : k = 1
  · subst h1
    go_wp2
    go_ret
    exact ⟨rfl, rfl⟩
  by_cases h4 : k = 4
  · subst h4
    go_wp2
    go_ret
    exact ⟨rfl, rfl⟩
  have e0 : (k == 0) = false := by simpa using h0
  have e1 : (k == 1) = false := by simpa using h1
  have e4 : (k == 4) = false := by simpa using h4
  have f0 : decide (k = 0) = false := decide_eq_false h0
  have f1 : decide (k = 1) = false := decide_eq_false h1
  have f4 : decide (k = 4) = false := decide_eq_false h4
  have e10 : (k == 10) = decide (k = 10) := by
    rw [Bool.eq_iff_iff, beq_iff_eq, decide_eq_true_iff]
  rw [f0, f1, f4]
  clear h0 h1 h4 f0 f1 f4
  generalize decide (k = 10) = d at *
  go_wp2
  go_ret
  exact ⟨by simp, rfl⟩
set_option maxHeartbeats 16000000 in
set_option maxRecDepth 100000 in
theorem rrhead_any (ad : Option Addr) (n c : Nat) (bs : List Nat) (w0 : World) (h : Row8 w0 ad n c (nums bs)) (hd : Rc.Dig bs) (hc : n ≤ c) (hn : n ≤ 140737488355328) : Calls Tryd.prog 19 #[.slice ad n c] w0 fun e w' => e = .returned (.tuple #[.int .i64 (Fr24.rheadF bs).1, .int .i64 (Fr24.rheadF bs).2]) ∧ Chg (fun _ => False) w0 w' := by
  have hbl : bs.length = n := by have h9 := h.1; rw [nums_len] at h9; exact h9
  have hni : (n : Int) ≤ 140737488355328 := by omega
  unfold Fr24.rheadF
  rw [hbl]
  by_cases h12 : n < 12
  · rw [if_pos h12]
    have dm : decide ((n : Int) < 12) = true := decide_eq_true (by omega)
    have dm' : decide (n < 12) = true := decide_eq_true h12
    clear h
    go_enter Tryd.func19, Tryd.ntmps19
    go_wp2
    go_ret2
    exact ⟨rfl, Chg.refl _ _⟩
  rw [if_neg h12]
  have dm : decide ((n : Int) < 12) = false := decide_eq_false (by omega)
  have dm' : decide (n < 12) = false := decide_eq_false h12
  have hcut : ∀ ww, (Instr.sliceAt 22 (.slice ad n c) none (some (.int .i64 12)) none).run Tryd.prog ww = .ok (.slice ad 12 c) ww := fun ww => run_cutZ_hi undBy elemBy sizeBy ad n c 12 ww (by omega)
  have hcv : (convert 22 9 (.slice ad 12 c)).run Tryd.prog w0 = .ok (.string (sN (bs.take 12))) w0 := by
    have h9 := row8_take h (i := 12) (by omega)
    exact Bk.conv8_here h9
  have hdt := dig_take hd 12
  have hlt : (bs.take 12).length = 12 := by rw [List.length_take]; omega
  have hsz : (sN (bs.take 12)).size = 12 := by rw [sN_size, hlt]
  have e06 : (sN (bs.take 12)).extract 0 6 = sN (bs.take 6) := by rw [sN_cut, take12 bs (by decide)]; rfl
  have e68 : (sN (bs.take 12)).extract 6 8 = sN ((bs.drop 6).take 2) := by rw [sN_cut, take12 bs (by decide)]
  have e8 : (sN (bs.take 12)).extract 8 12 = sN ((bs.drop 8).take 4) := by rw [sN_cut, take12 bs (by decide)]
  have i6 : ∀ ww, (Instr.index 9 (.string (sN (bs.take 12))) (.int .i64 6)).run Tryd.prog ww = .ok (.int .u8 ((bs.getD 6 0 : Nat) : Int)) ww := fun ww => by
    have h9 := sN_idx hdt 6 (by omega) ww
    rw [get12 bs (by decide)] at h9
    exact h9
  have i7 : ∀ ww, (Instr.index 9 (.string (sN (bs.take 12))) (.int .i64 7)).run Tryd.prog ww = .ok (.int .u8 ((bs.getD 7 0 : Nat) : Int)) ww := fun ww => by
    have h9 := sN_idx hdt 7 (by omega) ww
    rw [get12 bs (by decide)] at h9
    exact h9
  have hz6 : ((sN (bs.take 6)).toList == [253, 55, 122, 88, 90, 0]) = decide (bs.take 6 = Fr24.F6) := by
    have h9 := sN_eq (dig_take hd 6) (b := Fr24.F6) (fun x hx => by simp [Fr24.F6] at hx; omega)
    have e9 : (sN Fr24.F6).toList = [253, 55, 122, 88, 90, 0] := by decide +kernel
    rw [e9] at h9
    exact h9
  have hz8 := sN_eq (a := (bs.drop 8).take 4) (b := crc4 ((bs.drop 6).take 2)) (dig_take (dig_drop hd 8) 4) (crc4_dig _)
  have HSM : Hid (∀ w, Calls Tryd.prog 31 #[.string (sN ((bs.drop 6).take 2))] w fun e w' => e = .returned (.string (sN (crc4 ((bs.drop 6).take 2)))) ∧ Chg (fun _ => False) w w') := fun w => rsum24_any _ w (dig_take (dig_drop hd 6) 2) (by rw [List.length_take]; omega)
  have g6 := Fr24.dig_get hd 6
  have g7 := Fr24.dig_get hd 7
  generalize sN (crc4 ((bs.drop 6).take 2)) = SC at *
  generalize sN ((bs.drop 8).take 4) = S8 at *
  generalize sN ((bs.drop 6).take 2) = S68 at *
  generalize sN (bs.take 6) = S06 at *
  generalize sN (bs.take 12) = S at *
  generalize bs.getD 6 0 = x6 at *
  generalize bs.getD 7 0 = x7 at *
  clear h hd hbl hdt hlt hc
  go_enter Tryd.func19, Tryd.ntmps19
  by_cases c2 : bs.take 6 ≠ Fr24.F6
  · rw [if_pos c2]
    rw [decide_eq_false c2] at hz6
    clear c2 hz8
    go_wp2
    go_ret2
    exact ⟨rfl, Chg.refl _ _⟩
  rw [if_neg c2]
  generalize hR : (if (bs.drop 8).take 4 ≠ crc4 ((bs.drop 6).take 2) then ((0 : Int), (3 : Int)) else if x6 ≠ 0 ∨ Fr24.kind (x7 : Int) = false then (0, 4) else ((x7 : Int), 0)) = R
  have HR : Hid ((if (bs.drop 8).take 4 ≠ crc4 ((bs.drop 6).take 2) then ((0 : Int), (3 : Int)) else if x6 ≠ 0 ∨ Fr24.kind (x7 : Int) = false then (0, 4) else ((x7 : Int), 0)) = R) := hR
  clear hR
  rw [decide_eq_true (by simpa using c2)] at hz6
  obtain ⟨de, hdd⟩ : ∃ d, decide ((bs.drop 8).take 4 = crc4 ((bs.drop 6).take 2)) = d := ⟨_, rfl⟩
  have HDD : Hid (decide ((bs.drop 8).take 4 = crc4 ((bs.drop 6).take 2)) = de) := hdd
  rw [hdd] at hz8
  clear c2 hdd
  go_upto_region 6 with fail
  refine wp_region_phaseQ (mk := fun u => #[_, _, _, _, _, _, _, _, _, _, _, _, _, _, _, _, u 16, u 17, u 18, u 19, u 20, u 21, _, _, _, _, _, _, _, _, _, _, _, _, _, _]) (G := lookG [(16, .string S), (17, .string S8), (18, .string S), (19, .string S68), (20, .string SC), (21, .bool (!de))]) (J := fun _ _ ww => Chg (fun _ => False) w0 ww) [4] (fun i =>  1) ([]) (fun _ => undef) rfl (by kernel_rfl) 6 _ rfl rfl (by kernel_rfl) (by kernel_rfl) (by kernel_rfl) (by decide) ?_ ?_ ?_ (by kernel_rfl) ?_ ?_
  · repeat (refine ⟨fun _ _ => rfl, ?_⟩)
    exact trivial
  · exact fun _ _ _ _ _ h => h
  · exact (Chg.refl _ w0).drew
  · refine ⟨?_, ?_, ?_, ?_, ?_, ?_, trivial⟩
    · show StepRQ _ _ _ _ _ _ _ _ _ -- 16
      unfold StepRQ
      intro qn hq u w_ hj hd K hK
      clear hd
      clear hj
      go_simp
      exact hK.out _ rfl
    · show StepRQ _ _ _ _ _ _ _ _ _ -- 17
      unfold StepRQ
      intro qn hq u w_ hj hd K hK
      have h16 : u 16 = .string S := hd.get 0 (by kernel_rfl)
      clear hd
      simp only [h16] at hK
      clear hj
      go_simp
      exact hK.out _ rfl
    · show StepRQ _ _ _ _ _ _ _ _ _ -- 18
      unfold StepRQ
      intro qn hq u w_ hj hd K hK
      clear hd
      clear hj
      go_simp
      exact hK.out _ rfl
    · show StepRQ _ _ _ _ _ _ _ _ _ -- 19
      unfold StepRQ
      intro qn hq u w_ hj hd K hK
      have h18 : u 18 = .string S := hd.get 2 (by kernel_rfl)
      clear hd
      simp only [h18] at hK
      clear hj
      go_simp
      exact hK.out _ rfl
    · show StepWQ _ _ _ _ _ _ _ _ _ -- 20
      unfold StepWQ
      intro u w_ hj hd K hK
      have h19 : u 19 = .string S68 := hd.get 3 (by kernel_rfl)
      clear hd
      simp only [h19] at hK
      have HJ : Hid _ := hj
      clear hj
      go_simp
      go_at_call 31
      refine Calls.mono (HSM.out w_) ?_
      rintro z w2 ⟨rfl, c2⟩
      exact hK.out _ w2 (chg_then HJ.out c2) rfl
    · show StepRQ _ _ _ _ _ _ _ _ _ -- 21
      unfold StepRQ
      intro qn hq u w_ hj hd K hK
      have h17 : u 17 = .string S8 := hd.get 1 (by kernel_rfl)
      have h20 : u 20 = .string SC := hd.get 4 (by kernel_rfl)
      clear hd
      simp only [h17, h20] at hK
      clear hj
      go_simp
      exact hK.out _ rfl
  · intro u w7 hj hA K hK
    have HJ : Hid (Chg (fun _ => False) w0 w7) := hj
    have e21 : u 21 = .bool (!de) := hA.at 21 (by kernel_rfl)
    clear hj hA
    simp only [e21] at hK ⊢
    clear e21
    go_simp
    refine hK.out _ _ ?_
    clear hK HSM hz8 hcut hcv e06 e68 e8 hz6
    cases de
    · have HE : Hid (R = (0, 3)) := by
        show _ = _
        rw [← HR.out, if_pos (of_decide_eq_false HDD.out)]
      clear HDD HR
      go_wp2
      go_ret2
      exact ⟨by rw [HE.out]; rfl, HJ.out⟩
    · have HE : Hid ((if x6 ≠ 0 ∨ Fr24.kind (x7 : Int) = false then ((0 : Int), (4 : Int)) else ((x7 : Int), 0)) = R) := by
        exact (if_neg (by have := of_decide_eq_true HDD.out; simpa using this)).symm.trans HR.out
      clear HDD HR
      by_cases c6 : x6 = 0
      · subst c6
        have HKD : Hid _ := rkind_any (x7 : Int) w7
        obtain ⟨kd, hkd⟩ : ∃ d, Fr24.kind (x7 : Int) = d := ⟨_, rfl⟩
        have HKE : Hid (Fr24.kind (x7 : Int) = kd) := hkd
        rw [hkd] at HKD
        go_wp2_with fail
        refine Calls.mono HKD.out ?_
        rintro z w8 ⟨rfl, rfl⟩
        clear hkd HKD
        cases kd
        · go_wp2
          go_ret2
          exact ⟨by rw [← HE.out, if_pos (.inr HKE.out)]; rfl, HJ.out⟩
        · go_wp2
          go_ret2
          exact ⟨by rw [← HE.out, if_neg (by rw [HKE.out]; simp)]; rfl, HJ.out⟩
      · have HE6 : Hid (R = (0, 4)) := by
          show _ = _
          rw [← HE.out, if_pos (.inl c6)]
        have n6 : ((x6 : Int) == 0) = false := by rw [beq_eq_false_iff_ne]; omega
        have n6' : (x6 == 0) = false := by simpa using c6
        have n6b : decide (x6 = 0) = false := decide_eq_false c6
        have n6c : ((x6 : Int) != 0) = true := by rw [bne_iff_ne]; omega
        have n6d : (x6 != 0) = true := by rw [bne_iff_ne]; exact c6
        have n6e : ((x6 : Int) = 0) = False := eq_false (by omega)
        have n6f : (x6 = 0) = False := eq_false c6
        clear HE
        go_wp2
        go_ret2
        exact ⟨by rw [HE6.out]; rfl, HJ.out⟩
set_option maxHeartbeats 16000000 in
set_option maxRecDepth 100000 in
theorem rrfoot_any (ad : Option Addr) (n c : Nat) (bs : List Nat) (w0 : World) (h : Row8 w0 ad n c (nums bs)) (hd : Rc.Dig bs) (hc : n ≤ c) (hn : n ≤ 140737488355328) : Calls Tryd.prog 20 #[.slice ad n c] w0 fun e w' => e = .returned (.tuple #[.int .i64 (Fr24.rfootF bs).1, .int .i64 (Fr24.rfootF bs).2.1, .int .i64 (Fr24.rfootF bs).2.2]) ∧ Chg (fun _ => False) w0 w' := by
  have hbl : bs.length = n := by have h9 := h.1; rw [nums_len] at h9; exact h9
  have hni : (n : Int) ≤ 140737488355328 := by omega
  unfold Fr24.rfootF
  rw [hbl]
  by_cases h12 : n < 12
  · rw [if_pos h12]
    have dm : decide ((n : Int) < 12) = true := decide_eq_true (by omega)
    have dm' : decide (n < 12) = true := decide_eq_true h12
    clear h
    go_enter Tryd.func20, Tryd.ntmps20
    go_wp2
    go_ret3
    exact ⟨rfl, Chg.refl _ _⟩
  rw [if_neg h12]
  have dm : decide ((n : Int) < 12) = false := decide_eq_false (by omega)
  have dm' : decide (n < 12) = false := decide_eq_false h12
  have hcut : ∀ ww, (Instr.sliceAt 22 (.slice ad n c) none (some (.int .i64 12)) none).run Tryd.prog ww = .ok (.slice ad 12 c) ww := fun ww => run_cutZ_hi undBy elemBy sizeBy ad n c 12 ww (by omega)
  have hcv : (convert 22 9 (.slice ad 12 c)).run Tryd.prog w0 = .ok (.string (sN (bs.take 12))) w0 := by
    have h9 := row8_take h (i := 12) (by omega)
    exact Bk.conv8_here h9
  have hdt := dig_take hd 12
  have hlt : (bs.take 12).length = 12 := by rw [List.length_take]; omega
  have hsz : (sN (bs.take 12)).size = 12 := by rw [sN_size, hlt]
  have e06 : (sN (bs.take 12)).extract 10 12 = sN ((bs.drop 10).take 2) := by rw [sN_cut, take12 bs (by decide)]
  have e68 : (sN (bs.take 12)).extract 4 10 = sN ((bs.drop 4).take 6) := by rw [sN_cut, take12 bs (by decide)]
  have e8 : (sN (bs.take 12)).extract 0 4 = sN (bs.take 4) := by rw [sN_cut, take12 bs (by decide)]; rfl
  have i6 : ∀ ww, (Instr.index 9 (.string (sN (bs.take 12))) (.int .i64 8)).run Tryd.prog ww = .ok (.int .u8 ((bs.getD 8 0 : Nat) : Int)) ww := fun ww => by
    have h9 := sN_idx hdt 8 (by omega) ww
    rw [get12 bs (by decide)] at h9
    exact h9
  have i7 : ∀ ww, (Instr.index 9 (.string (sN (bs.take 12))) (.int .i64 9)).run Tryd.prog ww = .ok (.int .u8 ((bs.getD 9 0 : Nat) : Int)) ww := fun ww => by
    have h9 := sN_idx hdt 9 (by omega) ww
    rw [get12 bs (by decide)] at h9
    exact h9
  have j4 : ∀ ww, (Instr.index 9 (.string (sN (bs.take 12))) (.int .i64 4)).run Tryd.prog ww = .ok (.int .u8 ((bs.getD 4 0 : Nat) : Int)) ww := fun ww => by
    have h9 := sN_idx hdt 4 (by omega) ww
    rw [get12 bs (by decide)] at h9
    exact h9
  have j5 : ∀ ww, (Instr.index 9 (.string (sN (bs.take 12))) (.int .i64 5)).run Tryd.prog ww = .ok (.int .u8 ((bs.getD 5 0 : Nat) : Int)) ww := fun ww => by
    have h9 := sN_idx hdt 5 (by omega) ww
    rw [get12 bs (by decide)] at h9
    exact h9
  have j6 : ∀ ww, (Instr.index 9 (.string (sN (bs.take 12))) (.int .i64 6)).run Tryd.prog ww = .ok (.int .u8 ((bs.getD 6 0 : Nat) : Int)) ww := fun ww => by
    have h9 := sN_idx hdt 6 (by omega) ww
    rw [get12 bs (by decide)] at h9
    exact h9
  have j7 : ∀ ww, (Instr.index 9 (.string (sN (bs.take 12))) (.int .i64 7)).run Tryd.prog ww = .ok (.int .u8 ((bs.getD 7 0 : Nat) : Int)) ww := fun ww => by
    have h9 := sN_idx hdt 7 (by omega) ww
    rw [get12 bs (by decide)] at h9
    exact h9
  have hz6 : ((sN ((bs.drop 10).take 2)).toList == [89, 90]) = decide ((bs.drop 10).take 2 = Fr24.E2) := by
    have h9 := sN_eq (dig_take (dig_drop hd 10) 2) (b := Fr24.E2) (fun x hx => by simp [Fr24.E2] at hx; omega)
    have e9 : (sN Fr24.E2).toList = [89, 90] := by decide +kernel
    rw [e9] at h9
    exact h9
  have hz8 := sN_eq (a := bs.take 4) (b := crc4 ((bs.drop 4).take 6)) (dig_take hd 4) (crc4_dig _)
  have HSM : Hid (∀ w, Calls Tryd.prog 31 #[.string (sN ((bs.drop 4).take 6))] w fun e w' => e = .returned (.string (sN (crc4 ((bs.drop 4).take 6)))) ∧ Chg (fun _ => False) w w') := fun w => rsum24_any _ w (dig_take (dig_drop hd 4) 6) (by rw [List.length_take]; omega)
  have g6 := Fr24.dig_get hd 8
  have g7 := Fr24.dig_get hd 9
  have y4 := Fr24.dig_get hd 4
  have y5 := Fr24.dig_get hd 5
  have y6 := Fr24.dig_get hd 6
  have y7 := Fr24.dig_get hd 7
  have HLW : Hid (Fr24.low4 ((bs.drop 4).take 4) = bs.getD 4 0 + 256 * (bs.getD 5 0 + 256 * (bs.getD 6 0 + 256 * bs.getD 7 0))) := by
    show _ = _
    rw [Fr24.four_getD (by omega)]
    rfl
  generalize sN (crc4 ((bs.drop 4).take 6)) = SC at *
  generalize sN (bs.take 4) = S8 at *
  generalize sN ((bs.drop 4).take 6) = S68 at *
  generalize sN ((bs.drop 10).take 2) = S06 at *
  generalize sN (bs.take 12) = S at *
  generalize bs.getD 4 0 = b4 at *
  generalize bs.getD 5 0 = b5 at *
  generalize bs.getD 6 0 = b6 at *
  generalize bs.getD 7 0 = b7 at *
  generalize Fr24.low4 ((bs.drop 4).take 4) = LW at *
  generalize bs.getD 8 0 = x6 at *
  generalize bs.getD 9 0 = x7 at *
  clear h hd hbl hdt hlt hc
  go_enter Tryd.func20, Tryd.ntmps20
  by_cases c2 : (bs.drop 10).take 2 ≠ Fr24.E2
  · rw [if_pos c2]
    rw [decide_eq_false c2] at hz6
    clear c2 hz8
    go_wp2
    go_ret3
    exact ⟨rfl, Chg.refl _ _⟩
  rw [if_neg c2]
  generalize hR : (if bs.take 4 ≠ crc4 ((bs.drop 4).take 6) then ((0 : Int), (0 : Int), (3 : Int)) else if x6 ≠ 0 ∨ Fr24.kind (x7 : Int) = false then (0, 0, 2) else ((x7 : Int), 4 * ((LW : Int) + 1), 0)) = R
  have HR : Hid ((if bs.take 4 ≠ crc4 ((bs.drop 4).take 6) then ((0 : Int), (0 : Int), (3 : Int)) else if x6 ≠ 0 ∨ Fr24.kind (x7 : Int) = false then (0, 0, 2) else ((x7 : Int), 4 * ((LW : Int) + 1), 0)) = R) := hR
  clear hR
  rw [decide_eq_true (by simpa using c2)] at hz6
  obtain ⟨de, hdd⟩ : ∃ d, decide (bs.take 4 = crc4 ((bs.drop 4).take 6)) = d := ⟨_, rfl⟩
  have HDD : Hid (decide (bs.take 4 = crc4 ((bs.drop 4).take 6)) = de) := hdd
  rw [hdd] at hz8
  clear c2 hdd
  go_upto_region 6 with fail
  refine wp_region_phaseQ (mk := fun u => #[_, _, _, _, _, _, _, _, _, _, _, _, _, _, _, _, _, _, _, u 19, u 20, u 21, u 22, u 23, u 24, _, _, _, _, _, _, _, _, _, _, _, _, _, _, _, _, _, _, _, _, _, _, _, _, _, _, _, _, _]) (G := lookG [(19, .string S), (20, .string S8), (21, .string S), (22, .string S68), (23, .string SC), (24, .bool (!de))]) (J := fun _ _ ww => Chg (fun _ => False) w0 ww) [4] (fun i =>  1) ([]) (fun _ => undef) rfl (by kernel_rfl) 6 _ rfl rfl (by kernel_rfl) (by kernel_rfl) (by kernel_rfl) (by decide) ?_ ?_ ?_ (by kernel_rfl) ?_ ?_
  · repeat (refine ⟨fun _ _ => rfl, ?_⟩)
    exact trivial
  · exact fun _ _ _ _ _ h => h
  · exact (Chg.refl _ w0).drew
  · refine ⟨?_, ?_, ?_, ?_, ?_, ?_, trivial⟩
    · show StepRQ _ _ _ _ _ _ _ _ _ -- 19
      unfold StepRQ
      intro qn hq u w_ hj hd K hK
      clear hd
      clear hj
      go_simp
      exact hK.out _ rfl
    · show StepRQ _ _ _ _ _ _ _ _ _ -- 20
      unfold StepRQ
      intro qn hq u w_ hj hd K hK
      have h19 : u 19 = .string S := hd.get 0 (by kernel_rfl)
      clear hd
      simp only [h19] at hK
      clear hj
      go_simp
      exact hK.out _ rfl
    · show StepRQ _ _ _ _ _ _ _ _ _ -- 21
      unfold StepRQ
      intro qn hq u w_ hj hd K hK
      clear hd
      clear hj
      go_simp
      exact hK.out _ rfl
    · show StepRQ _ _ _ _ _ _ _ _ _ -- 22
      unfold StepRQ
      intro qn hq u w_ hj hd K hK
      have h21 : u 21 = .string S := hd.get 2 (by kernel_rfl)
      clear hd
      simp only [h21] at hK
      clear hj
      go_simp
      exact hK.out _ rfl
    · show StepWQ _ _ _ _ _ _ _ _ _ -- 23
      unfold StepWQ
      intro u w_ hj hd K hK
      have h22 : u 22 = .string S68 := hd.get 3 (by kernel_rfl)
      clear hd
      simp only [h22] at hK
      have HJ : Hid _ := hj
      clear hj
      go_simp
      go_at_call 31
      refine Calls.mono (HSM.out w_) ?_
      rintro z w2 ⟨rfl, c2⟩
      exact hK.out _ w2 (chg_then HJ.out c2) rfl
    · show StepRQ _ _ _ _ _ _ _ _ _ -- 24
      unfold StepRQ
      intro qn hq u w_ hj hd K hK
      have h20 : u 20 = .string S8 := hd.get 1 (by kernel_rfl)
      have h23 : u 23 = .string SC := hd.get 4 (by kernel_rfl)
      clear hd
      simp only [h20, h23] at hK
      clear hj
      go_simp
      exact hK.out _ rfl
  · intro u w7 hj hA K hK
    have HJ : Hid (Chg (fun _ => False) w0 w7) := hj
    have e24 : u 24 = .bool (!de) := hA.at 24 (by kernel_rfl)
    clear hj hA
    simp only [e24] at hK ⊢
    clear e24
    go_simp
    refine hK.out _ _ ?_
    clear hK HSM hz8 hcut hcv e06 e68 e8 hz6
    cases de
    · have HE : Hid (R = (0, 0, 3)) := by
        show _ = _
        rw [← HR.out, if_pos (of_decide_eq_false HDD.out)]
      clear HDD HR
      go_wp2
      go_ret3
      exact ⟨by rw [HE.out]; rfl, HJ.out⟩
    · have HE : Hid ((if x6 ≠ 0 ∨ Fr24.kind (x7 : Int) = false then ((0 : Int), (0 : Int), (2 : Int)) else ((x7 : Int), 4 * ((LW : Int) + 1), 0)) = R) := by
        exact (if_neg (by have := of_decide_eq_true HDD.out; simpa using this)).symm.trans HR.out
      clear HDD HR
      by_cases c6 : x6 = 0
      · subst c6
        have HKD : Hid _ := rkind_any (x7 : Int) w7
        obtain ⟨kd, hkd⟩ : ∃ d, Fr24.kind (x7 : Int) = d := ⟨_, rfl⟩
        have HKE : Hid (Fr24.kind (x7 : Int) = kd) := hkd
        rw [hkd] at HKD
        go_wp2_with fail
        refine Calls.mono HKD.out ?_
        rintro z w8 ⟨rfl, rfl⟩
        clear hkd HKD
        cases kd
        · go_wp2
          go_ret3
          exact ⟨by rw [← HE.out, if_pos (.inr HKE.out)]; rfl, HJ.out⟩
        · have HE2 : Hid (R = ((x7 : Int), 4 * ((LW : Int) + 1), 0)) := by
            show _ = _
            rw [← HE.out, if_neg (by rw [HKE.out]; simp)]
          clear HE HKE
          go_wp2_with fail
          go_loopw [6, 7] (fun a v wr => ∃ (N : Nat) (i : Int), a = .int .i64 (N : Int) ∧ v = .int .i64 i ∧ wr = w8 ∧ (i = 3 ∧ N = 0 ∨ i = 2 ∧ N = b7 ∨ i = 1 ∧ N = b6 + 256 * b7 ∨ i = 0 ∧ N = b5 + 256 * (b6 + 256 * b7) ∨ i = -1 ∧ N = b4 + 256 * (b5 + 256 * (b6 + 256 * b7)))) (fun _ v _ => (intOf v + 1).toNat)
          case atStart => exact ⟨0, 3, rfl, rfl, rfl, .inl ⟨rfl, rfl⟩⟩
          case round =>
            obtain ⟨N, i, rfl, rfl, rfl, hN⟩ := hrel
            rcases hN with ⟨rfl, hN⟩ | ⟨rfl, hN⟩ | ⟨rfl, hN⟩ | ⟨rfl, hN⟩ | ⟨rfl, hN⟩
            · have HNN : Hid _ := hN
              have hNb : (N : Int) ≤ 0 := by omega
              clear hN
              go_wp2
              go_roundw
              case rel =>
                have hN := HNN.out
                exact ⟨256 * N + b7, 2, by go_num, by go_num, (by first | rfl | trivial), .inr (.inl ⟨by first | rfl | trivial, by omega⟩)⟩
              case measure => simp [intOf]
            · have HNN : Hid _ := hN
              have hNb : (N : Int) ≤ 255 := by omega
              clear hN
              go_wp2
              go_roundw
              case rel =>
                have hN := HNN.out
                exact ⟨256 * N + b6, 1, by go_num, by go_num, (by first | rfl | trivial), .inr (.inr (.inl ⟨by first | rfl | trivial, by omega⟩))⟩
              case measure => simp [intOf]
            · have HNN : Hid _ := hN
              have hNb : (N : Int) ≤ 65535 := by omega
              clear hN
              go_wp2
              go_roundw
              case rel =>
                have hN := HNN.out
                exact ⟨256 * N + b5, 0, by go_num, by go_num, (by first | rfl | trivial), .inr (.inr (.inr (.inl ⟨by first | rfl | trivial, by omega⟩)))⟩
              case measure => simp [intOf]
            · have HNN : Hid _ := hN
              have hNb : (N : Int) ≤ 16777215 := by omega
              clear hN
              go_wp2
              go_roundw
              case rel =>
                have hN := HNN.out
                exact ⟨256 * N + b4, -1, by go_num, by go_num, (by first | rfl | trivial), .inr (.inr (.inr (.inr ⟨by first | rfl | trivial, by omega⟩)))⟩
              case measure => simp [intOf]
            · have HNN : Hid _ := hN
              have hNb : (N : Int) ≤ 4294967295 := by omega
              clear hN
              go_wp2
              go_ret3
              have hN := HNN.out
              have hLW := HLW.out
              obtain rfl : N = LW := by omega
              exact ⟨by rw [HE2.out]; simp only [Int.mul_add]; first | rfl | (congr 5; omega), HJ.out⟩
      · have HE6 : Hid (R = (0, 0, 2)) := by
          show _ = _
          rw [← HE.out, if_pos (.inl c6)]
        have n6 : ((x6 : Int) == 0) = false := by rw [beq_eq_false_iff_ne]; omega
        have n6' : (x6 == 0) = false := by simpa using c6
        have n6b : decide (x6 = 0) = false := decide_eq_false c6
        have n6c : ((x6 : Int) != 0) = true := by rw [bne_iff_ne]; omega
        have n6d : (x6 != 0) = true := by rw [bne_iff_ne]; exact c6
        have n6e : ((x6 : Int) = 0) = False := eq_false (by omega)
        have n6f : (x6 = 0) = False := eq_false c6
        clear HE
        go_wp2
        go_ret3
        exact ⟨by rw [HE6.out]; rfl, HJ.out⟩
end Go.Proofs.YtikokgngkagieaaDoor
