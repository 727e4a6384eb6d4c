/- The landed ReadFooter; what is asked of the landed frame ('FrameSpec') holds; of no statement by themselves. -/
import Derived.Test.YtikokgngkagieaaDoorFrq
import Derived.Test.YtikokgngkagieaaDoorFrs
namespace Go.Proofs.YtikokgngkagieaaDoor
open Go.RowKit
set_option linter.unusedVariables false
set_option linter.unusedSimpArgs false
attribute [local go_sem] Oper.semAt_some
theorem rfootF_is {bs : List Nat} (h : ¬ bs.length < 12) : Fr24.rfootF bs = if decide ((bs.drop 10).take 2 = Fr24.E2) = true then (if decide (bs.take 4 = crc4 ((bs.drop 4).take 6)) = true then (if fok (bs.getD 8 0) (bs.getD 9 0) = true then ((bs.getD 9 0 : Int), 4 * ((Fr24.low4 ((bs.drop 4).take 4) : Int) + 1), 0) else (0, 0, 2)) else (0, 0, 3)) else (0, 0, 2) := by
  unfold Fr24.rfootF fok
  rw [if_neg h]
  generalize bs.getD 8 0 = x
  generalize bs.getD 9 0 = y
  by_cases h1 : (bs.drop 10).take 2 = Fr24.E2
  · rw [if_neg (by simpa using h1), if_pos (decide_eq_true h1)]
    by_cases h2 : bs.take 4 = crc4 ((bs.drop 4).take 6)
    · rw [if_neg (by simpa using h2), if_pos (decide_eq_true h2)]
      by_cases h3 : x = 0
      · cases h4 : Fr24.kind (y : Int)
        · rw [if_pos (.inr rfl), if_neg (by simp)]
        · rw [if_neg (by simp only [h3]; simp), if_pos (by simp [h3])]
      · rw [if_pos (.inl h3), if_neg (by simp [h3])]
    · rw [if_pos h2, if_neg (by simp [h2])]
  · rw [if_pos h1, if_neg (by simp [h1])]
theorem six_cut (bs : List Nat) : (bs.drop 4).take 6 = (bs.drop 4).take 4 ++ (bs.drop 8).take 2 := by
  rw [show 6 = 4 + 2 from rfl, List.take_add, List.drop_drop]
set_option maxHeartbeats 16000000 in
set_option maxRecDepth 100000 in
theorem rfoot24f_any (ad : Option Addr) (n c : Nat) (bs : List Nat) (w : World) (hT : FTab w) (hr : Row8 w ad n c (nums bs)) (hd : Rc.Dig bs) (hnc : n ≤ c) (hn : n ≤ 140737488355328) : Calls Tryd.prog 13 #[.slice ad n c] w fun e w' => e = .returned (.tuple #[.int .i64 (Fr24.rfootF bs).1, .int .i64 (Fr24.rfootF bs).2.1, .int .i64 (Fr24.rfootF bs).2.2]) ∧ Chg (fun _ => False) w w' := by
  have hlen : bs.length = n := by have h9 := hr.1; rw [nums_len] at h9; exact h9
  by_cases hs : n < 12
  · have HF : Hid (Fr24.rfootF bs = (0, 0, 1)) := by show _ = _; unfold Fr24.rfootF; rw [if_pos (by omega)]
    have hsi : (n : Int) < 12 := by omega
    have d12 : decide ((n : Int) < 12) = true := decide_eq_true hsi
    clear hT hr hd hnc hlen hs
    go_enter Tryd.func13, Tryd.ntmps13
    go_wp2
    go_ret3
    exact ⟨by rw [HF.out]; rfl, Chg.refl _ _⟩
  · obtain ⟨b, off, rfl, -⟩ := row8_at hr (by omega)
    have hc4 : ∀ ww : World, (Instr.sliceAt 22 (.slice (some ⟨b, off, none⟩) n c) (some (.int .i64 4)) none none).run Tryd.prog ww = .ok (.slice (some ⟨b, off + 4, none⟩) (n - 4) (c - 4)) ww := fun ww => cut_mid (n := n) (c := c) (k := 4) b off (by omega) (by omega) ww
    have hc8 : ∀ ww : World, (Instr.sliceAt 22 (.slice (some ⟨b, off, none⟩) n c) (some (.int .i64 8)) none none).run Tryd.prog ww = .ok (.slice (some ⟨b, off + 8, none⟩) (n - 8) (c - 8)) ww := fun ww => cut_mid (n := n) (c := c) (k := 8) b off (by omega) (by omega) ww
    have hc10 : ∀ ww : World, (Instr.sliceAt 22 (.slice (some ⟨b, off, none⟩) n c) (some (.int .i64 10)) none none).run Tryd.prog ww = .ok (.slice (some ⟨b, off + 10, none⟩) (n - 10) (c - 10)) ww := fun ww => cut_mid (n := n) (c := c) (k := 10) b off (by omega) (by omega) ww
    obtain ⟨n4, hn4⟩ : ∃ m, n - 4 = m := ⟨_, rfl⟩
    obtain ⟨c4, hc4e⟩ : ∃ m, c - 4 = m := ⟨_, rfl⟩
    rw [hn4, hc4e] at hc4
    obtain ⟨n8, hn8⟩ : ∃ m, n - 8 = m := ⟨_, rfl⟩
    obtain ⟨c8, hc8e⟩ : ∃ m, c - 8 = m := ⟨_, rfl⟩
    rw [hn8, hc8e] at hc8
    obtain ⟨n10, hn10⟩ : ∃ m, n - 10 = m := ⟨_, rfl⟩
    obtain ⟨c10, hc10e⟩ : ∃ m, c - 10 = m := ⟨_, rfl⟩
    rw [hn10, hc10e] at hc10
    have ha0 : ∀ w : World, (Instr.arrayAt 57 (.slice (some ⟨b, off, none⟩) n c)).run Tryd.prog w = .ok (.pointer (some ⟨b, off, none⟩)) w := fun w => run_arrayAt w _ _ 4 _ _ _ Tryd.underlying57 (by omega)
    have ha4 : ∀ w : World, (Instr.arrayAt 57 (.slice (some ⟨b, off + 4, none⟩) n4 c4)).run Tryd.prog w = .ok (.pointer (some ⟨b, off + 4, none⟩)) w := fun w => run_arrayAt w _ _ 4 _ _ _ Tryd.underlying57 (by omega)
    have ha8 : ∀ w : World, (Instr.arrayAt 53 (.slice (some ⟨b, off + 8, none⟩) n8 c8)).run Tryd.prog w = .ok (.pointer (some ⟨b, off + 8, none⟩)) w := fun w => run_arrayAt w _ _ 2 _ _ _ Tryd.underlying53 (by omega)
    have ha10 : ∀ w : World, (Instr.arrayAt 53 (.slice (some ⟨b, off + 10, none⟩) n10 c10)).run Tryd.prog w = .ok (.pointer (some ⟨b, off + 10, none⟩)) w := fun w => run_arrayAt w _ _ 2 _ _ _ Tryd.underlying53 (by omega)
    have d12 : decide ((n : Int) < 12) = false := decide_eq_false (by omega)
    have d12n : decide (n < 12) = false := decide_eq_false (by omega)
    have HR : Hid (Row8 w (some ⟨b, off, none⟩) n c (nums bs)) := hr
    have hF := rfootF_is (bs := bs) (by omega)
    have h2 := Fr24.two_getD (bs := bs) (a := 8) (by omega)
    have h4 := Fr24.four_getD (bs := bs) (a := 4) (by omega)
    have h6 := six_cut bs
    have hG0 : ∀ ww, Chg (fun _ => False) w ww → ww.rangeAt b off ((nums (bs.take 4)).map (Value.int .u8)) := fun ww hc => range_cut (Bk.row8_chg HR.out hc) 0 4
    have hG4 : ∀ ww, Chg (fun _ => False) w ww → ww.rangeAt b (off + 4) ((nums ((bs.drop 4).take 4)).map (Value.int .u8)) := fun ww hc => range_cut (Bk.row8_chg HR.out hc) 4 4
    have hG8 : ∀ ww, Chg (fun _ => False) w ww → ww.rangeAt b (off + 8) ((nums ((bs.drop 8).take 2)).map (Value.int .u8)) := fun ww hc => range_cut (Bk.row8_chg HR.out hc) 8 2
    have hG10 : ∀ ww, Chg (fun _ => False) w ww → ww.rangeAt b (off + 10) ((nums ((bs.drop 10).take 2)).map (Value.int .u8)) := fun ww hc => range_cut (Bk.row8_chg HR.out hc) 10 2
    rw [h2, h4] at h6
    rw [h6, h4] at hF
    rw [h4] at hG4
    rw [h2] at hG8
    have hlA : (bs.take 4).length = 4 := by rw [List.length_take]; omega
    have hlD : ((bs.drop 10).take 2).length = 2 := by rw [List.length_take, List.length_drop]; omega
    have hdA := dig_take hd 4
    have hdD : Rc.Dig ((bs.drop 10).take 2) := dig_take (dig_drop hd 10) 2
    have hp := Fr24.dig_get hd 8
    have hq := Fr24.dig_get hd 9
    have ht0 := Fr24.dig_get hd 4
    have ht1 := Fr24.dig_get hd (4 + 1)
    have ht2 := Fr24.dig_get hd (4 + 2)
    have ht3 := Fr24.dig_get hd (4 + 3)
    have HTX : Hid (Rc.Dig [bs.getD 4 0, bs.getD (4 + 1) 0, bs.getD (4 + 2) 0, bs.getD (4 + 3) 0]) := by
      show Rc.Dig _
      intro x hx
      simp only [List.mem_cons, List.not_mem_nil, or_false] at hx
      rcases hx with rfl | rfl | rfl | rfl
      · exact ht0
      · exact ht1
      · exact ht2
      · exact ht3
    obtain ⟨A, hA⟩ : ∃ l, bs.take 4 = l := ⟨_, rfl⟩
    obtain ⟨D, hD⟩ : ∃ l, (bs.drop 10).take 2 = l := ⟨_, rfl⟩
    obtain ⟨p, hpe⟩ : ∃ l, bs.getD 8 0 = l := ⟨_, rfl⟩
    obtain ⟨q, hqe⟩ : ∃ l, bs.getD 9 0 = l := ⟨_, rfl⟩
    obtain ⟨t0, ht0e⟩ : ∃ l, bs.getD 4 0 = l := ⟨_, rfl⟩
    obtain ⟨t1, ht1e⟩ : ∃ l, bs.getD (4 + 1) 0 = l := ⟨_, rfl⟩
    obtain ⟨t2, ht2e⟩ : ∃ l, bs.getD (4 + 2) 0 = l := ⟨_, rfl⟩
    obtain ⟨t3, ht3e⟩ : ∃ l, bs.getD (4 + 3) 0 = l := ⟨_, rfl⟩
    rw [hA] at hG0 hF hlA hdA
    rw [hD] at hG10 hF hlD hdD
    rw [show 8 + 1 = 9 from rfl] at hG8 hF
    rw [hpe] at hG8 hF hp
    rw [hqe] at hG8 hF hq
    rw [ht0e] at hG4 hF ht0 HTX
    rw [ht1e] at hG4 hF ht1 HTX
    rw [ht2e] at hG4 hF ht2 HTX
    rw [ht3e] at hG4 hF ht3 HTX
    have hdB : Rc.Dig [p, q] := by intro x hx; simp at hx; omega
    have hne1 : ∀ w : World, (binOp .neq 53 (.agg (abA D)) (.agg (abA Fr24.E2))).run Tryd.prog w = .ok (.bool (!decide (D = Fr24.E2))) w := neq_ab (t := 53) (n := 2) Tryd.underlying53 hdD (by intro x hx; simp [Fr24.E2] at hx; omega) hlD rfl
    have hne2 : ∀ w : World, (binOp .neq 57 (.agg (abA A)) (.agg (abA (crc4 ([t0, t1, t2, t3] ++ [p, q]))))).run Tryd.prog w = .ok (.bool (!decide (A = crc4 ([t0, t1, t2, t3] ++ [p, q])))) w := neq_ab (t := 57) (n := 4) Tryd.underlying57 hdA (crc4_dig _) hlA (crc4_len _)
    have HSM : Hid (∀ (w1 : World) (g : Nat), Chg (fun _ => False) w w1 → (∀ w', Chg (fun _ => False) w1 w' → Cq.Pieces w' ⟨g, 0, none⟩ [[t0, t1, t2, t3], [p, q]]) → Calls Tryd.prog 23 #[.slice (some ⟨g, 0, none⟩) 2 2] w1 fun e w' => e = .returned (ab (crc4 ([t0, t1, t2, t3] ++ [p, q]))) ∧ Chg (fun _ => False) w1 w') := fun w1 g hw hp => by
      have h9 := sumOf_any ⟨g, 0, none⟩ 2 2 [[t0, t1, t2, t3], [p, q]] w1 (hT.1.new hw) hp rfl (by decide) (by simpa using dig_app HTX.out hdB)
      rw [show ([[t0, t1, t2, t3], [p, q]] : List (List Nat)).flatten = [t0, t1, t2, t3] ++ [p, q] by simp] at h9
      exact h9
    have HKI : Hid _ := kindOf_any p q hp hq
    have HIX : Hid _ := indexOf_any t0 t1 t2 t3 ht0 ht1 ht2 ht3
    have HDB : Hid (Rc.Dig [p, q]) := hdB
    have HT : Hid (FTab w) := hT
    obtain ⟨CR, hCR⟩ : ∃ l, crc4 ([t0, t1, t2, t3] ++ [p, q]) = l := ⟨_, rfl⟩
    have HCL : Hid (CR.length = 4) := by rw [← hCR]; exact crc4_len _
    rw [hCR] at hne2 HSM hF
    have hlb := Fr24.low4_bd ht0 ht1 ht2 ht3
    obtain ⟨V, hV⟩ : ∃ v, Fr24.low4 [t0, t1, t2, t3] = v := ⟨_, rfl⟩
    rw [hV] at hF HIX hlb
    have HAL : Hid (A.length = 4) := hlA
    have HDL : Hid (D.length = 2) := hlD
    have HG0 : Hid _ := hG0
    have HG4 : Hid _ := hG4
    have HG8 : Hid _ := hG8
    have HG10 : Hid _ := hG10
    obtain ⟨B1, hB1⟩ : ∃ x, decide (D = Fr24.E2) = x := ⟨_, rfl⟩
    obtain ⟨B2, hB2⟩ : ∃ x, decide (A = CR) = x := ⟨_, rfl⟩
    obtain ⟨B3, hB3⟩ : ∃ x, fok p q = x := ⟨_, rfl⟩
    rw [hB1] at hne1 hF
    rw [hB2] at hne2 hF
    rw [hB3] at hF HKI
    have HF : Hid _ := hF
    have hqi : (q : Int) < 256 := by omega
    clear hF h2 h4 h6 hG0 hG4 hG8 hG10 hlA hlD hdA hdD hA hD hpe hqe ht0e ht1e ht2e ht3e ht0 ht1 ht2 ht3 hdB hCR hB1 hB2 hB3 hr hd hT hn4 hn8 hn10 hc4e hc8e hc10e hnc hlen hp hq hV hlb
    have hs' : (12 : Int) ≤ (n : Int) := by omega
    clear hs
    go_enter Tryd.func13, Tryd.ntmps13
    go_upto_region 3 with fail
    refine wp_region_all (mk := fun u => #[_, _, _, _, _, u 5, u 6, _, _, _, _, _, _, _, u 14, u 15, u 16, u 17, u 18, u 19, u 20, _, _, _, _, _, _, _, _, _, _, _, _, _, _, _, _, _, _, _, _, _, _, _, _, _, _, _]) (G := lookG [(14, .slice (some ⟨b, off, none⟩) n c), (15, .pointer (some ⟨b, off, none⟩)), (16, ab A), (17, .slice (some ⟨b, off, none⟩) n c), (18, .slice (some ⟨b, off + 4, none⟩) n4 c4), (19, .pointer (some ⟨b, off + 4, none⟩)), (20, ab [t0, t1, t2, t3])]) (J := fun L u ww => BJ w #[] 0 57 57 0 false (L 7) (L 8) false (L 9) (L 10) false (if L 9 = true then abA A else abA [0, 0, 0, 0]) (if L 10 = true then abA [t0, t1, t2, t3] else abA [0, 0, 0, 0]) #[] undef (u 5) (u 6) undef ww) [7, 8, 9, 10] ([]) (fun _ => undef) rfl (by kernel_rfl) (by kernel_rfl) (by kernel_rfl) ?_ (fun _ => trivial) ?_ ?_ ?_ ?_
    · repeat (refine ⟨fun _ _ => rfl, ?_⟩)
      exact trivial
    · intro L L2 u u2 ww h hj
      have e5 : u 5 = u2 5 := (h 7 (by decide)).2
      have e6 : u 6 = u2 6 := (h 8 (by decide)).2
      have l7 : L 7 = L2 7 := (h 7 (by decide)).1
      have l8 : L 8 = L2 8 := (h 8 (by decide)).1
      have l9 : L 9 = L2 9 := (h 9 (by decide)).1
      have l10 : L 10 = L2 10 := (h 10 (by decide)).1
      show BJ _ _ _ _ _ _ _ _ _ _ _ _ _ _ _ _ _ _ _ _ _
      rw [← e5, ← e6, ← l7, ← l8, ← l9, ← l10]
      exact hj
    · exact BJ.start
    · refine ⟨?_, ?_, ?_, ?_, ?_, ?_, ?_, ?_, ?_, ?_, ?_, trivial⟩
      · show StepRS _ _ _ _ _ _ _ _ -- 14
        unfold StepRS
        intro L u w_ hj hd K hK
        clear hd
        clear hj
        go_simp
        exact hK.out _ rfl
      · show StepRS _ _ _ _ _ _ _ _ -- 15
        unfold StepRS
        intro L u w_ hj hd K hK
        have h14 : u 14 = .slice (some ⟨b, off, none⟩) n c := hd.get 0 (by kernel_rfl)
        clear hd
        simp only [h14] at hK
        clear hj
        go_simp
        exact hK.out _ rfl
      · show StepRS _ _ _ _ _ _ _ _ -- 16
        unfold StepRS
        intro L u w_ hj hd K hK
        have h15 : u 15 = .pointer (some ⟨b, off, none⟩) := hd.get 1 (by kernel_rfl)
        clear hd
        have hR := HG0.out w_ hj.ch
        have hi : (Tryd.prog.info? 57).map (·.size) = some ((nums A).map (Value.int .u8)).length := by rw [List.length_map, nums_len]; first | exact info4x | (simp only [HAL.out]; exact info4x) | (simp only [HDL.out]; exact info4x)
        clear hj
        rw [if_pos (by rfl)]
        exact wp_load_mid 57 (.tmp 15) rfl b (off) h15 _ _ hR Tryd.underlying57 rfl hi (hK.out _ rfl)
      · show StepRS _ _ _ _ _ _ _ _ -- 17
        unfold StepRS
        intro L u w_ hj hd K hK
        clear hd
        clear hj
        go_simp
        exact hK.out _ rfl
      · show StepRS _ _ _ _ _ _ _ _ -- 18
        unfold StepRS
        intro L u w_ hj hd K hK
        have h17 : u 17 = .slice (some ⟨b, off, none⟩) n c := hd.get 3 (by kernel_rfl)
        clear hd
        simp only [h17] at hK
        clear hj
        go_simp
        exact hK.out _ rfl
      · show StepRS _ _ _ _ _ _ _ _ -- 19
        unfold StepRS
        intro L u w_ hj hd K hK
        have h18 : u 18 = .slice (some ⟨b, off + 4, none⟩) n4 c4 := hd.get 4 (by kernel_rfl)
        clear hd
        simp only [h18] at hK
        clear hj
        go_simp
        exact hK.out _ rfl
      · show StepRS _ _ _ _ _ _ _ _ -- 20
        unfold StepRS
        intro L u w_ hj hd K hK
        have h19 : u 19 = .pointer (some ⟨b, off + 4, none⟩) := hd.get 5 (by kernel_rfl)
        clear hd
        have hR := HG4.out w_ hj.ch
        have hi : (Tryd.prog.info? 57).map (·.size) = some ((nums [t0, t1, t2, t3]).map (Value.int .u8)).length := by rw [List.length_map, nums_len]; first | exact info4x | (simp only [HAL.out]; exact info4x) | (simp only [HDL.out]; exact info4x)
        clear hj
        rw [if_pos (by rfl)]
        exact wp_load_mid 57 (.tmp 19) rfl b (off + 4) h19 _ _ hR Tryd.underlying57 rfl hi (hK.out _ rfl)
      · show StepWS _ _ _ _ _ _ _ _ _ -- 5
        unfold StepWS
        intro L u w_ hj hli hwt hd K hK
        clear hd
        have HJ : Hid _ := hj
        have h7 : L 9 = false := off_of hj.s1 hli
        have HZ : Hid ((if L 9 = true then abA A else abA [0, 0, 0, 0]) = abA [0, 0, 0, 0]) := by show _ = _; rw [h7]; rfl
        clear hj hwt hli h7
        go_simp
        exact hK.out _ _ (HJ.out.mk1 HZ.out) trivial
      · show StepWS _ _ _ _ _ _ _ _ _ -- 6
        unfold StepWS
        intro L u w_ hj hli hwt hd K hK
        clear hd
        have HJ : Hid _ := hj
        have h7 : L 10 = false := off_of hj.s2 hli
        have HZ : Hid ((if L 10 = true then abA [t0, t1, t2, t3] else abA [0, 0, 0, 0]) = abA [0, 0, 0, 0]) := by show _ = _; rw [h7]; rfl
        clear hj hwt hli h7
        go_simp
        exact hK.out _ _ (HJ.out.mk2 HZ.out) trivial
      · show StepWS _ _ _ _ _ _ _ _ _ -- #9
        unfold StepWS
        intro L u w_ hj hli hwt hd K hK
        have h16 : u 16 = ab A := hd.get 2 (by kernel_rfl)
        clear hd
        have hl := hwt { on := 7, ground := .data } (by simp) (by kernel_rfl)
        obtain ⟨g, e9, hg, hb⟩ := hj.h1 hl
        have hx := hj.st1 hl e9 (by decide) (abA A)
        have hs9 : (if L 9 = true then abA A else abA [0, 0, 0, 0]).size = (abA A).size := by split <;> simp [abA_size, HAL.out]
        have hi : (Tryd.prog.info? 57).map (·.size) = some (abA A).size := by rw [abA_size]; first | exact info4x | (rw [HAL.out]; exact info4x)
        rw [if_pos (by rfl)]
        exact wp_store_row 57 (.tmp 5) (.tmp 16) rfl g (abA A) e9 h16 57 _ hb hi hs9 (abA_one _) (hK.out undef _ hx trivial)
      · show StepWS _ _ _ _ _ _ _ _ _ -- #10
        unfold StepWS
        intro L u w_ hj hli hwt hd K hK
        have h20 : u 20 = ab [t0, t1, t2, t3] := hd.get 6 (by kernel_rfl)
        clear hd
        have hl := hwt { on := 8, ground := .data } (by simp) (by kernel_rfl)
        obtain ⟨g, e9, hg, hb⟩ := hj.h2 hl
        have hx := hj.st2 hl e9 (by decide) (abA [t0, t1, t2, t3])
        have hs9 : (if L 10 = true then abA [t0, t1, t2, t3] else abA [0, 0, 0, 0]).size = (abA [t0, t1, t2, t3]).size := by split <;> simp [abA_size, HAL.out]
        have hi : (Tryd.prog.info? 57).map (·.size) = some (abA [t0, t1, t2, t3]).size := by rw [abA_size]; first | exact info4x | (rw [HAL.out]; exact info4x)
        rw [if_pos (by rfl)]
        exact wp_store_row 57 (.tmp 6) (.tmp 20) rfl g (abA [t0, t1, t2, t3]) e9 h20 57 _ hb hi hs9 (abA_one _) (hK.out undef _ hx trivial)
    · intro u w4 hj hA
      obtain ⟨g5, e5, hg5, hb5⟩ := hj.h1 rfl
      obtain ⟨g6, e6, hg6, hb6⟩ := hj.h2 rfl
      have HB5 : Hid (w4.heap[g5]? = some (.cells (abA A) 57 (0, 0))) := hb5
      have HB6 : Hid (w4.heap[g6]? = some (.cells (abA [t0, t1, t2, t3]) 57 (0, 0))) := hb6
      have HC4 : Hid (Chg (fun _ => False) w w4) := hj.ch
      simp only [e5, e6]
      clear hj hA e5 e6 hb5 hb6 hg5 hg6 HG0 HG4 ha0 ha4 hc4
      go_upto_region 4 with fail
      refine wp_region_all (mk := fun u => #[_, _, _, _, _, _, _, u 7, u 8, _, _, _, _, _, _, _, _, _, _, _, _, u 21, u 22, u 23, u 24, u 25, u 26, u 27, u 28, _, _, _, _, _, _, _, _, _, _, _, _, _, _, _, _, _, _, _]) (G := lookG [(21, .slice (some ⟨b, off, none⟩) n c), (22, .slice (some ⟨b, off + 8, none⟩) n8 c8), (23, .pointer (some ⟨b, off + 8, none⟩)), (24, ab [p, q]), (25, .slice (some ⟨b, off, none⟩) n c), (26, .slice (some ⟨b, off + 10, none⟩) n10 c10), (27, .pointer (some ⟨b, off + 10, none⟩)), (28, ab D)]) (J := fun L u ww => BJ w4 #[] 0 53 53 0 false (L 8) (L 9) false (L 10) (L 11) false (if L 10 = true then abA [p, q] else abA [0, 0]) (if L 11 = true then abA D else abA [0, 0]) #[] undef (u 7) (u 8) undef ww) [8, 9, 10, 11] ([]) (fun _ => undef) rfl (by kernel_rfl) (by kernel_rfl) (by kernel_rfl) ?_ (fun _ => trivial) ?_ ?_ ?_ ?_
      · repeat (refine ⟨fun _ _ => rfl, ?_⟩)
        exact trivial
      · intro L L2 u u2 ww h hj
        have e7 : u 7 = u2 7 := (h 8 (by decide)).2
        have e8 : u 8 = u2 8 := (h 9 (by decide)).2
        have l8 : L 8 = L2 8 := (h 8 (by decide)).1
        have l9 : L 9 = L2 9 := (h 9 (by decide)).1
        have l10 : L 10 = L2 10 := (h 10 (by decide)).1
        have l11 : L 11 = L2 11 := (h 11 (by decide)).1
        show BJ _ _ _ _ _ _ _ _ _ _ _ _ _ _ _ _ _ _ _ _ _
        rw [← e7, ← e8, ← l8, ← l9, ← l10, ← l11]
        exact hj
      · exact BJ.start
      · refine ⟨?_, ?_, ?_, ?_, ?_, ?_, ?_, ?_, ?_, ?_, ?_, ?_, trivial⟩
        · show StepRS _ _ _ _ _ _ _ _ -- 21
          unfold StepRS
          intro L u w_ hj hd K hK
          clear hd
          clear hj
          go_simp
          exact hK.out _ rfl
        · show StepRS _ _ _ _ _ _ _ _ -- 22
          unfold StepRS
          intro L u w_ hj hd K hK
          have h21 : u 21 = .slice (some ⟨b, off, none⟩) n c := hd.get 0 (by kernel_rfl)
          clear hd
          simp only [h21] at hK
          clear hj
          go_simp
          exact hK.out _ rfl
        · show StepRS _ _ _ _ _ _ _ _ -- 23
          unfold StepRS
          intro L u w_ hj hd K hK
          have h22 : u 22 = .slice (some ⟨b, off + 8, none⟩) n8 c8 := hd.get 1 (by kernel_rfl)
          clear hd
          simp only [h22] at hK
          clear hj
          go_simp
          exact hK.out _ rfl
        · show StepRS _ _ _ _ _ _ _ _ -- 24
          unfold StepRS
          intro L u w_ hj hd K hK
          have h23 : u 23 = .pointer (some ⟨b, off + 8, none⟩) := hd.get 2 (by kernel_rfl)
          clear hd
          have hR := HG8.out w_ (chg_then HC4.out hj.ch)
          have hi : (Tryd.prog.info? 53).map (·.size) = some ((nums [p, q]).map (Value.int .u8)).length := by rw [List.length_map, nums_len]; first | exact info2x | (simp only [HAL.out]; exact info2x) | (simp only [HDL.out]; exact info2x)
          clear hj
          rw [if_pos (by rfl)]
          exact wp_load_mid 53 (.tmp 23) rfl b (off + 8) h23 _ _ hR Tryd.underlying53 rfl hi (hK.out _ rfl)
        · show StepRS _ _ _ _ _ _ _ _ -- 25
          unfold StepRS
          intro L u w_ hj hd K hK
          clear hd
          clear hj
          go_simp
          exact hK.out _ rfl
        · show StepRS _ _ _ _ _ _ _ _ -- 26
          unfold StepRS
          intro L u w_ hj hd K hK
          have h25 : u 25 = .slice (some ⟨b, off, none⟩) n c := hd.get 4 (by kernel_rfl)
          clear hd
          simp only [h25] at hK
          clear hj
          go_simp
          exact hK.out _ rfl
        · show StepRS _ _ _ _ _ _ _ _ -- 27
          unfold StepRS
          intro L u w_ hj hd K hK
          have h26 : u 26 = .slice (some ⟨b, off + 10, none⟩) n10 c10 := hd.get 5 (by kernel_rfl)
          clear hd
          simp only [h26] at hK
          clear hj
          go_simp
          exact hK.out _ rfl
        · show StepRS _ _ _ _ _ _ _ _ -- 28
          unfold StepRS
          intro L u w_ hj hd K hK
          have h27 : u 27 = .pointer (some ⟨b, off + 10, none⟩) := hd.get 6 (by kernel_rfl)
          clear hd
          have hR := HG10.out w_ (chg_then HC4.out hj.ch)
          have hi : (Tryd.prog.info? 53).map (·.size) = some ((nums D).map (Value.int .u8)).length := by rw [List.length_map, nums_len]; first | exact info2x | (simp only [HAL.out]; exact info2x) | (simp only [HDL.out]; exact info2x)
          clear hj
          rw [if_pos (by rfl)]
          exact wp_load_mid 53 (.tmp 27) rfl b (off + 10) h27 _ _ hR Tryd.underlying53 rfl hi (hK.out _ rfl)
        · show StepWS _ _ _ _ _ _ _ _ _ -- 7
          unfold StepWS
          intro L u w_ hj hli hwt hd K hK
          clear hd
          have HJ : Hid _ := hj
          have h7 : L 10 = false := off_of hj.s1 hli
          have HZ : Hid ((if L 10 = true then abA [p, q] else abA [0, 0]) = abA [0, 0]) := by show _ = _; rw [h7]; rfl
          clear hj hwt hli h7
          go_simp
          exact hK.out _ _ (HJ.out.mk1 HZ.out) trivial
        · show StepWS _ _ _ _ _ _ _ _ _ -- 8
          unfold StepWS
          intro L u w_ hj hli hwt hd K hK
          clear hd
          have HJ : Hid _ := hj
          have h7 : L 11 = false := off_of hj.s2 hli
          have HZ : Hid ((if L 11 = true then abA D else abA [0, 0]) = abA [0, 0]) := by show _ = _; rw [h7]; rfl
          clear hj hwt hli h7
          go_simp
          exact hK.out _ _ (HJ.out.mk2 HZ.out) trivial
        · show StepWS _ _ _ _ _ _ _ _ _ -- #10
          unfold StepWS
          intro L u w_ hj hli hwt hd K hK
          have h24 : u 24 = ab [p, q] := hd.get 3 (by kernel_rfl)
          clear hd
          have hl := hwt { on := 8, ground := .data } (by simp) (by kernel_rfl)
          obtain ⟨g, e9, hg, hb⟩ := hj.h1 hl
          have hx := hj.st1 hl e9 (by decide) (abA [p, q])
          have hs9 : (if L 10 = true then abA [p, q] else abA [0, 0]).size = (abA [p, q]).size := by split <;> simp [abA_size, HAL.out]
          have hi : (Tryd.prog.info? 53).map (·.size) = some (abA [p, q]).size := by rw [abA_size]; first | exact info2x | (rw [HAL.out]; exact info2x)
          rw [if_pos (by rfl)]
          exact wp_store_row 53 (.tmp 7) (.tmp 24) rfl g (abA [p, q]) e9 h24 53 _ hb hi hs9 (abA_one _) (hK.out undef _ hx trivial)
        · show StepWS _ _ _ _ _ _ _ _ _ -- #11
          unfold StepWS
          intro L u w_ hj hli hwt hd K hK
          have h28 : u 28 = ab D := hd.get 7 (by kernel_rfl)
          clear hd
          have hl := hwt { on := 9, ground := .data } (by simp) (by kernel_rfl)
          obtain ⟨g, e9, hg, hb⟩ := hj.h2 hl
          have hx := hj.st2 hl e9 (by decide) (abA D)
          have hs9 : (if L 11 = true then abA D else abA [0, 0]).size = (abA D).size := by split <;> simp [abA_size, HDL.out]
          have hi : (Tryd.prog.info? 53).map (·.size) = some (abA D).size := by rw [abA_size]; first | exact info2x | (rw [HDL.out]; exact info2x)
          rw [if_pos (by rfl)]
          exact wp_store_row 53 (.tmp 8) (.tmp 28) rfl g (abA D) e9 h28 53 _ hb hi hs9 (abA_one _) (hK.out undef _ hx trivial)
      · intro u w5 hj hA
        obtain ⟨g7, e7, hg7, hb7⟩ := hj.h1 rfl
        obtain ⟨g8, e8, hg8, hb8⟩ := hj.h2 rfl
        have HB7 : Hid (w5.heap[g7]? = some (.cells (abA [p, q]) 53 (0, 0))) := hb7
        have HB8 : Hid (w5.heap[g8]? = some (.cells (abA D) 53 (0, 0))) := hb8
        have HB5 : Hid (w5.heap[g5]? = some (.cells (abA A) 57 (0, 0))) := blk_keep HB5.out hj.ch (fun f => f)
        have HB6 : Hid (w5.heap[g6]? = some (.cells (abA [t0, t1, t2, t3]) 57 (0, 0))) := blk_keep HB6.out hj.ch (fun f => f)
        have HC5 : Hid (Chg (fun _ => False) w w5) := chg_then HC4.out hj.ch
        have HM5 : Hid _ := (HT.out.keep HC5.out).2.2
        simp only [e7, e8]
        clear hj hA e7 e8 hb7 hb8 hg7 hg8 HG8 HG10 ha8 ha10 hc8 hc10 HR HC4
        obtain ⟨my, mr, hmb⟩ := HM5.out
        have HMB : Hid (w5.heap[1]? = some (.cells (abA Fr24.E2) my mr)) := hmb
        have hi2 : (Tryd.prog.info? 53).map (·.size) = some (abA D).size := by rw [abA_size, HDL.out]; exact info2x
        clear hmb HM5
        cases B1
        · go_wp2_with (first
            | refine wpList_load_row rfl 53 (.tmp 8) rfl g8 rfl 53 _ (0, 0) _ HB8.out Tryd.underlying53 rfl hi2 ?_
            | refine wpList_load_row rfl 53 (.global 1) rfl 1 rfl _ _ _ _ HMB.out Tryd.underlying53 rfl info2x ?_)
          go_wp2
          go_ret3
          exact ⟨by rw [HF.out]; rfl, HC5.out⟩
        · go_upto_region 7 with (first
            | refine wpList_load_row rfl 53 (.tmp 8) rfl g8 rfl 53 _ (0, 0) _ HB8.out Tryd.underlying53 rfl hi2 ?_
            | refine wpList_load_row rfl 53 (.global 1) rfl 1 rfl _ _ _ _ HMB.out Tryd.underlying53 rfl info2x ?_)
          refine wp_region_all (mk := fun u => #[_, _, _, _, _, _, _, _, _, _, _, _, _, _, _, _, _, _, _, _, _, _, _, _, _, _, _, _, _, _, _, _, u 32, u 33, u 34, u 35, u 36, u 37, _, _, _, _, _, _, _, _, _, _]) (G := lookG [(32, .agg (abA A)), (33, .slice (some ⟨g6, 0, none⟩) 4 4), (34, .slice (some ⟨g7, 0, none⟩) 2 2), (36, .agg (abA CR)), (37, .bool (!B2))]) (J := fun L u ww => BJ w5 #[.slice (some ⟨g6, 0, none⟩) 4 4, .slice (some ⟨g7, 0, none⟩) 2 2] 2 0 0 0 (L 3) false false false false false false #[] #[] #[] (u 35) undef undef undef ww) [3, 4] ([]) (fun _ => undef) rfl (by kernel_rfl) (by kernel_rfl) (by kernel_rfl) ?_ (fun _ => trivial) ?_ ?_ ?_ ?_
          · repeat (refine ⟨fun _ _ => rfl, ?_⟩)
            exact trivial
          · intro L L2 u u2 ww h hj
            have e35 : u 35 = u2 35 := (h 3 (by decide)).2
            have l3 : L 3 = L2 3 := (h 3 (by decide)).1
            show BJ _ _ _ _ _ _ _ _ _ _ _ _ _ _ _ _ _ _ _ _ _
            rw [← e35, ← l3]
            exact hj
          · exact BJ.start
          · refine ⟨?_, ?_, ?_, ?_, ?_, ?_, trivial⟩
            · show StepRS _ _ _ _ _ _ _ _ -- 32
              unfold StepRS
              intro L u w_ hj hd K hK
              clear hd
              have hb2 := blk_keep HB5.out hj.ch (fun f => f)
              have hi4 : (Tryd.prog.info? 57).map (·.size) = some (abA A).size := by rw [abA_size, HAL.out]; exact info4x
              clear hj
              rw [if_pos (by rfl)]
              exact wp_load_row 57 (.tmp 5) rfl g5 rfl _ _ _ _ hb2 Tryd.underlying57 rfl hi4 (hK.out _ rfl)
            · show StepRS _ _ _ _ _ _ _ _ -- 33
              unfold StepRS
              intro L u w_ hj hd K hK
              clear hd
              clear hj
              go_simp
              exact hK.out _ rfl
            · show StepRS _ _ _ _ _ _ _ _ -- 34
              unfold StepRS
              intro L u w_ hj hd K hK
              clear hd
              clear hj
              go_simp
              exact hK.out _ rfl
            · show StepWS _ _ _ _ _ _ _ _ _ -- 35
              unfold StepWS
              intro L u w_ hj hli hwt hd K hK
              have h33 : u 33 = .slice (some ⟨g6, 0, none⟩) 4 4 := hd.get 1 (by kernel_rfl)
              have h34 : u 34 = .slice (some ⟨g7, 0, none⟩) 2 2 := hd.get 2 (by kernel_rfl)
              clear hd
              simp only [h33, h34] at hK
              have HJ : Hid _ := hj
              clear hj hwt hli
              go_simp
              exact hK.out _ _ (HJ.out.list) trivial
            · show StepWS _ _ _ _ _ _ _ _ _ -- 36
              unfold StepWS
              intro L u w_ hj hli hwt hd K hK
              clear hd
              have HJ : Hid _ := hj
              obtain ⟨g, e35, -, hb⟩ := hj.hb (hwt { on := 3, ground := .data } (by simp) (by kernel_rfl))
              have hp : ∀ w', Chg (fun _ => False) w_ w' → Cq.Pieces w' ⟨g, 0, none⟩ [[t0, t1, t2, t3], [p, q]] := fun w' hc => pcs_two (blk_keep hb hc (fun f => f)) (row8_ab (blk_keep HB6.out (chg_then hj.ch hc) (fun f => f)) 4 rfl 4) (row8_ab (blk_keep HB7.out (chg_then hj.ch hc) (fun f => f)) 2 rfl 2) HTX.out HDB.out (by decide) (by decide)
              have HC : Hid _ := HSM.out w_ g (chg_then HC5.out hj.ch) hp
              clear hj hwt hli hb hp
              simp only [e35] at hK ⊢
              clear e35
              go_simp
              go_at_call 23
              refine Calls.mono HC.out ?_
              rintro z w2 ⟨rfl, c2⟩
              exact hK.out _ w2 (HJ.out.go c2) rfl
            · show StepRS _ _ _ _ _ _ _ _ -- 37
              unfold StepRS
              intro L u w_ hj hd K hK
              have h32 : u 32 = .agg (abA A) := hd.get 0 (by kernel_rfl)
              have h36 : u 36 = .agg (abA CR) := hd.get 4 (by kernel_rfl)
              clear hd
              simp only [h32, h36] at hK
              clear hj
              go_simp
              exact hK.out _ rfl
          · intro u w6 hj hA
            have h37 : u 37 = .bool (!B2) := hA.at 37 (by kernel_rfl)
            have HC6 : Hid (Chg (fun _ => False) w w6) := chg_then HC5.out hj.ch
            have HB76 : Hid (w6.heap[g7]? = some (.cells (abA [p, q]) 53 (0, 0))) := blk_keep HB7.out hj.ch (fun f => f)
            have HB66 : Hid (w6.heap[g6]? = some (.cells (abA [t0, t1, t2, t3]) 57 (0, 0))) := blk_keep HB6.out hj.ch (fun f => f)
            simp only [h37]
            clear hj hA h37 HB5 HB6 HB7 HB8 HC5 HMB hi2 HSM
            cases B2
            · go_wp2
              go_ret3
              exact ⟨by rw [HF.out]; rfl, HC6.out⟩
            · have HK6 : Hid _ := HKI.out w6
              go_wp2_with (refine wpList_load_row rfl 53 (.tmp 7) rfl g7 rfl 53 _ (0, 0) _ HB76.out Tryd.underlying53 rfl info2x ?_)
              refine Calls.mono HK6.out ?_
              rintro z w7 ⟨rfl, c7⟩
              have HC7 : Hid (Chg (fun _ => False) w w7) := chg_then HC6.out c7
              have HB67 : Hid (w7.heap[g6]? = some (.cells (abA [t0, t1, t2, t3]) 57 (0, 0))) := blk_keep HB66.out c7 (fun f => f)
              clear c7 HK6 HKI HC6 HB76 HB66
              cases B3
              · go_wp2
                go_ret3
                exact ⟨by rw [HF.out]; rfl, HC7.out⟩
              · have HI7 : Hid _ := HIX.out w7
                go_wp2_with (refine wpList_load_row rfl 57 (.tmp 6) rfl g6 rfl 57 _ (0, 0) _ HB67.out Tryd.underlying57 rfl info4x ?_)
                refine Calls.mono HI7.out ?_
                rintro z w8 ⟨rfl, c8⟩
                have HC8 : Hid (Chg (fun _ => False) w w8) := chg_then HC7.out c8
                clear c8 HI7 HIX HC7 HB67
                go_wp2
                go_ret3
                exact ⟨by rw [HF.out]; rfl, HC8.out⟩
theorem frameSpec : FrameSpec FTab where
  keep := fun h c => h.keep c
  head := fun k w hT _ => head24f_any k w hT
  foot := fun k n w hT _ hn => foot24f_any k n w hT hn
  rhead := rhead24f_any
  rfoot := rfoot24f_any
theorem half_atF : ∀ k : Fin 16, tab0[k.val]? = some ((Cq.Crc.itr Cq.Crc.P32 4 k.val : Nat) : Int) := by decide +kernel
theorem ftab_of_laid {W : World} (h : Tab W) : FTab W := ⟨fun k hk => tab_at0 h (half_atF ⟨k, hk⟩), h.2.2.1, h.2.2.2⟩
end Go.Proofs.YtikokgngkagieaaDoor
