/- The landed Footer; of no statement by itself. -/
import Derived.Test.YtikokgngkagieaaDoorFrp
namespace Go.Proofs.YtikokgngkagieaaDoor
open Go.RowKit
set_option linter.unusedVariables false
set_option linter.unusedSimpArgs false
attribute [local go_sem] Oper.semAt_some
theorem footF_6 {k n : Int} (h : ¬ Fr24.kind k = true) : Fr24.footF k n = ([], 6) := by unfold Fr24.footF; rw [if_neg h]
theorem footF_7 {k n : Int} (h : Fr24.kind k = true) (h2 : mayTold n = false) : Fr24.footF k n = ([], 7) := by
  unfold Fr24.footF
  unfold mayTold at h2
  rw [if_pos h]
  by_cases hb : n < 4 ∨ 17179869184 < n ∨ n % 4 ≠ 0
  · rw [if_pos hb]
  · rw [if_neg hb] at h2; cases h2
theorem footF_00 {k n : Int} (h : Fr24.kind k = true) (h2 : mayTold n = true) : Fr24.footF k n = (Fr24.footB k.toNat n.toNat, 0) ∧ told n = Cq.Crc.low (n.toNat / 4 - 1) 4 := by
  unfold Fr24.footF told
  unfold mayTold at h2
  rw [if_pos h]
  by_cases hb : n < 4 ∨ 17179869184 < n ∨ n % 4 ≠ 0
  · rw [if_pos hb] at h2; cases h2
  · rw [if_neg hb, if_neg hb]; exact ⟨rfl, rfl⟩
theorem told_len (n : Int) : (told n).length = 4 := by
  unfold told
  split
  · rfl
  · exact low_len _ _
theorem told_dig (n : Int) : Rc.Dig (told n) := by
  unfold told
  split
  · intro x hx; simp at hx; omega
  · exact low_dig _ _
set_option maxHeartbeats 8000000 in
set_option maxRecDepth 100000 in
theorem foot24f_any (k n : Int) (w : World) (hT : FTab w) (hI : I64 n) : Calls Tryd.prog 9 #[.int .i64 k, .int .i64 n] w fun e w' => ∃ ov, e = .returned (.tuple #[ov, .int .i64 (Fr24.footF k n).2]) ∧ ByO w' w.heap.size ov (Fr24.footF k n).1 ∧ Chg (fun _ => False) w w' := by
  have HT : Hid (FTab w) := hT
  have HFL : Hid _ := flagsOf_any k w
  have HTO : Hid (∀ w, Calls Tryd.prog 27 #[.int .i64 n] w fun e w' => e = .returned (.tuple #[ab (told n), .bool (mayTold n)]) ∧ Chg (fun _ => False) w w') := fun w => toldOf_any n w hI
  have HTL : Hid ((told n).length = 4) := told_len n
  have HTD : Hid (Rc.Dig (told n)) := told_dig n
  by_cases hk : Fr24.kind k = true
  rotate_left
  · have HF : Hid (Fr24.footF k n = ([], 6)) := footF_6 hk
    rw [Bool.not_eq_true] at hk
    have hfl : flg k = [0, 0] := by unfold flg; rw [if_neg (by rw [hk]; decide)]
    rw [hfl, hk] at HFL
    clear hk hfl hT
    go_enter Tryd.func9, Tryd.ntmps9
    go_wp2_with fail
    refine Calls.mono HFL.out ?_
    rintro z w1 ⟨rfl, c1⟩
    have HC1 : Hid (Chg (fun _ => False) w w1) := c1
    clear c1 HFL
    go_wp2_with (refine wpList_store_row rfl 53 (.tmp 6) (.tmp 15) rfl w1.heap.size (abA [0, 0]) rfl rfl 53 _ (heap_alloc_last _ _) info2x rfl (abA_one _) ?_)
    go_wp2
    go_ret2
    exact ⟨.slice none 0 0, (by rw [HF.out]; rfl), (by rw [HF.out]; exact byO_nil _ _), chg_setRowF (chg_then HC1.out (chg_one _ _)) HC1.out.size⟩
  · obtain ⟨kn, rfl, hK10⟩ : ∃ n : Nat, k = (n : Int) ∧ n ≤ 10 := ⟨k.toNat, by have := Fr24.kind_lt hk; omega, by have := Fr24.kind_lt hk; omega⟩
    have hfl : flg (kn : Int) = [0, kn] := by unfold flg; rw [if_pos hk]; rfl
    rw [hfl, hk] at HFL
    have HDG : Hid (Rc.Dig [0, kn]) := by
      show Rc.Dig _
      intro x hx
      simp at hx
      omega
    have HKK : Hid (Fr24.kind (kn : Int) = true) := hk
    obtain ⟨MT, hMT⟩ : ∃ b, mayTold n = b := ⟨_, rfl⟩
    have HMT : Hid (mayTold n = MT) := hMT
    rw [hMT] at HTO
    obtain ⟨TL, hTL⟩ : ∃ l, told n = l := ⟨_, rfl⟩
    have HTN : Hid (told n = TL) := hTL
    rw [hTL] at HTO HTL HTD
    have hi4 : (Tryd.prog.info? 57).map (·.size) = some (abA TL).size := by rw [abA_size, HTL.out]; exact info4x
    have HI4 : Hid ((Tryd.prog.info? 57).map (·.size) = some (abA TL).size) := hi4
    obtain ⟨CR, hCR⟩ : ∃ l, crc4 (TL ++ [0, kn]) = l := ⟨_, rfl⟩
    have HCR : Hid (crc4 (TL ++ [0, kn]) = CR) := hCR
    have HCL : Hid (CR.length = 4) := by rw [← hCR]; exact crc4_len _
    have HSM : Hid (∀ (w1 : World) (g : Nat), Chg (fun _ => False) w w1 → (∀ w', Chg (fun _ => False) w1 w' → Cq.Pieces w' ⟨g, 0, none⟩ [TL, [0, kn]]) → Calls Tryd.prog 23 #[.slice (some ⟨g, 0, none⟩) 2 2] w1 fun e w' => e = .returned (ab CR) ∧ Chg (fun _ => False) w1 w') := fun w1 g hw hp => by
      have h9 := sumOf_any ⟨g, 0, none⟩ 2 2 [TL, [0, kn]] w1 (HT.out.1.new hw) hp rfl (by decide) (by simpa using dig_app HTD.out HDG.out)
      rw [show ([TL, [0, kn]] : List (List Nat)).flatten = TL ++ [0, kn] by simp, hCR] at h9
      exact h9
    clear hk hfl hT hCR hK10 hMT hTL
    go_enter Tryd.func9, Tryd.ntmps9
    go_wp2_with fail
    refine Calls.mono HFL.out ?_
    rintro z w1 ⟨rfl, c1⟩
    have HC1 : Hid (Chg (fun _ => False) w w1) := c1
    clear c1 HFL
    go_upto_region 4 with (refine wpList_store_row rfl 53 (.tmp 6) (.tmp 15) rfl w1.heap.size (abA [0, kn]) rfl rfl 53 _ (heap_alloc_last _ _) info2x rfl (abA_one _) ?_)
    obtain ⟨W2, hW2⟩ : ∃ W2, (w1.alloc (.cells #[.int .u8 0, .int .u8 0] 53)).setRow w1.heap.size (abA [0, kn]) = W2 := ⟨_, rfl⟩
    have HW2 : Hid (Chg (fun _ => False) w W2 ∧ W2.heap[w1.heap.size]? = some (.cells (abA [0, kn]) 53 (0, 0))) := by
      rw [← hW2]
      exact ⟨chg_setRowF (chg_then HC1.out (chg_one _ _)) HC1.out.size, setRow_heap _ _ _ _ _ _ (heap_alloc_last _ _)⟩
    rw [hW2]
    generalize w1.heap.size = F at *
    clear hW2 HC1
    have HX2 : Hid _ := HTO.out W2
    go_wp2_with fail
    refine Calls.mono HX2.out ?_
    rintro z w3 ⟨rfl, c3⟩
    have HC3 : Hid (Chg (fun _ => False) w w3 ∧ w3.heap[F]? = some (.cells (abA [0, kn]) 53 (0, 0))) := ⟨chg_then HW2.out.1 c3, blk_keep HW2.out.2 c3 (fun f => f)⟩
    clear c3 HX2 HW2 HTO
    cases MT
    · have HF : Hid (Fr24.footF (kn : Int) n = ([], 7)) := footF_7 HKK.out HMT.out
      go_wp2_with (refine wpList_store_row rfl 57 (.tmp 8) (.tmp 22) rfl w3.heap.size (abA TL) rfl rfl 57 _ (heap_alloc_last _ _) HI4.out (by rw [abA_size, HTL.out]; rfl) (abA_one _) ?_)
      go_wp2
      go_ret2
      exact ⟨.slice none 0 0, (by rw [HF.out]; rfl), (by rw [HF.out]; exact byO_nil _ _), chg_setRowF (chg_then HC3.out.1 (chg_one _ _)) HC3.out.1.size⟩
    · have HF : Hid (Fr24.footF (kn : Int) n = (CR ++ TL ++ [0, kn] ++ Fr24.E2, 0)) := by
        have h9 := footF_00 HKK.out HMT.out
        show _ = _
        rw [h9.1]
        unfold Fr24.footB Fr24.six
        rw [← h9.2, HTN.out, Int.toNat_natCast]
        show (crc4 (TL ++ [0, kn]) ++ (TL ++ [0, kn] ++ Fr24.E2), (0 : Int)) = _
        rw [HCR.out]
        simp
      clear hi4
      go_upto_region 7 with (refine wpList_store_row rfl 57 (.tmp 8) (.tmp 22) rfl w3.heap.size (abA TL) rfl rfl 57 _ (heap_alloc_last _ _) HI4.out (by rw [abA_size, HTL.out]; rfl) (abA_one _) ?_)
      obtain ⟨W4, hW4⟩ : ∃ W4, (w3.alloc (.cells #[.int .u8 0, .int .u8 0, .int .u8 0, .int .u8 0] 57)).setRow w3.heap.size (abA TL) = W4 := ⟨_, rfl⟩
      have HW4 : Hid (Chg (fun _ => False) w W4 ∧ W4.heap[w3.heap.size]? = some (.cells (abA TL) 57 (0, 0)) ∧ W4.heap[F]? = some (.cells (abA [0, kn]) 53 (0, 0))) := by
        rw [← hW4]
        refine ⟨chg_setRowF (chg_then HC3.out.1 (chg_one _ _)) HC3.out.1.size, setRow_heap _ _ _ _ _ _ (heap_alloc_last _ _), ?_⟩
        rw [setRow_other _ _ _ _ (by have := lt_of_blk HC3.out.2; omega)]
        exact blk_keep HC3.out.2 (chg_one _ _) (fun f => f)
      rw [hW4]
      generalize w3.heap.size = E at *
      clear hW4 HC3
      have HTW : Hid (FTab W4) := HT.out.keep HW4.out.1
      refine wp_region_all (mk := fun u => #[_, _, _, _, _, _, _, _, _, u 9, u 10, _, _, _, _, _, _, _, _, _, _, _, _, _, _, _, u 26, u 27, u 28, u 29, u 30, _, _, _, _, _, _, _, _, _, _, _, _, _, _, _]) (G := lookG [(26, ab Fr24.E2), (27, .slice (some ⟨E, 0, none⟩) 4 4), (28, .slice (some ⟨F, 0, none⟩) 2 2), (30, ab CR)]) (J := fun L u ww => BJ W4 #[.slice (some ⟨E, 0, none⟩) 4 4, .slice (some ⟨F, 0, none⟩) 2 2] 2 53 57 0 (L 3) (L 5) (L 6) false (L 7) (L 8) false (if L 7 = true then abA Fr24.E2 else abA [0, 0]) (if L 8 = true then abA CR else abA [0, 0, 0, 0]) #[] (u 29) (u 9) (u 10) undef ww) [3, 4, 5, 6, 7, 8] ([]) (fun _ => undef) rfl (by kernel_rfl) (by kernel_rfl) (by kernel_rfl) ?_ (fun _ => trivial) ?_ ?_ ?_ ?_
      · repeat (refine ⟨fun _ _ => rfl, ?_⟩)
        exact trivial
      · intro L L2 u u2 ww h hj
        have e29 : u 29 = u2 29 := (h 3 (by decide)).2
        have e9 : u 9 = u2 9 := (h 5 (by decide)).2
        have e10 : u 10 = u2 10 := (h 6 (by decide)).2
        have l3 : L 3 = L2 3 := (h 3 (by decide)).1
        have l5 : L 5 = L2 5 := (h 5 (by decide)).1
        have l6 : L 6 = L2 6 := (h 6 (by decide)).1
        have l7 : L 7 = L2 7 := (h 7 (by decide)).1
        have l8 : L 8 = L2 8 := (h 8 (by decide)).1
        show BJ _ _ _ _ _ _ _ _ _ _ _ _ _ _ _ _ _ _ _ _ _
        rw [← e29, ← e9, ← e10, ← l3, ← l5, ← l6, ← l7, ← l8]
        exact hj
      · exact BJ.start
      · refine ⟨?_, ?_, ?_, ?_, ?_, ?_, ?_, ?_, ?_, trivial⟩
        · show StepRS _ _ _ _ _ _ _ _ -- 26
          unfold StepRS
          intro L u w_ hj hd K hK
          clear hd
          obtain ⟨y, r, hb⟩ := HTW.out.2.2
          have hb2 := blk_keep hb hj.ch (fun f => f)
          clear hj hb
          rw [if_pos (by rfl)]
          exact wp_load_row 53 (.global 1) rfl 1 rfl y _ r _ hb2 Tryd.underlying53 rfl info2x (hK.out _ rfl)
        · show StepRS _ _ _ _ _ _ _ _ -- 27
          unfold StepRS
          intro L u w_ hj hd K hK
          clear hd
          clear hj
          go_simp
          exact hK.out _ rfl
        · show StepRS _ _ _ _ _ _ _ _ -- 28
          unfold StepRS
          intro L u w_ hj hd K hK
          clear hd
          clear hj
          go_simp
          exact hK.out _ rfl
        · show StepWS _ _ _ _ _ _ _ _ _ -- 29
          unfold StepWS
          intro L u w_ hj hli hwt hd K hK
          have h27 : u 27 = .slice (some ⟨E, 0, none⟩) 4 4 := hd.get 1 (by kernel_rfl)
          have h28 : u 28 = .slice (some ⟨F, 0, none⟩) 2 2 := hd.get 2 (by kernel_rfl)
          clear hd
          simp only [h27, h28] at hK
          have HJ : Hid _ := hj
          clear hj hwt hli
          go_simp
          exact hK.out _ _ (HJ.out.list) trivial
        · show StepWS _ _ _ _ _ _ _ _ _ -- 30
          unfold StepWS
          intro L u w_ hj hli hwt hd K hK
          clear hd
          have HJ : Hid _ := hj
          obtain ⟨g, e29, -, hb⟩ := hj.hb (hwt { on := 3, ground := .data } (by simp) (by kernel_rfl))
          have hp : ∀ w', Chg (fun _ => False) w_ w' → Cq.Pieces w' ⟨g, 0, none⟩ [TL, [0, kn]] := fun w' hc => pcs_two (blk_keep hb hc (fun f => f)) (row8_ab (blk_keep HW4.out.2.1 (chg_then hj.ch hc) (fun f => f)) 4 HTL.out 4) (row8_ab (blk_keep HW4.out.2.2 (chg_then hj.ch hc) (fun f => f)) 2 rfl 2) HTD.out HDG.out (by decide) (by decide)
          have HC : Hid _ := HSM.out w_ g (chg_then HW4.out.1 hj.ch) hp
          clear hj hwt hli hb hp
          simp only [e29] at hK ⊢
          clear e29
          go_simp
          go_at_call 23
          refine Calls.mono HC.out ?_
          rintro z w2 ⟨rfl, c2⟩
          exact hK.out _ w2 (HJ.out.go c2) rfl
        · show StepWS _ _ _ _ _ _ _ _ _ -- 9
          unfold StepWS
          intro L u w_ hj hli hwt hd K hK
          clear hd
          have HJ : Hid _ := hj
          have h7 : L 7 = false := off_of hj.s1 hli
          have HZ : Hid ((if L 7 = true then abA Fr24.E2 else abA [0, 0]) = abA [0, 0]) := by show _ = _; rw [h7]; rfl
          clear hj hwt hli h7
          go_simp
          exact hK.out _ _ (HJ.out.mk1 HZ.out) trivial
        · show StepWS _ _ _ _ _ _ _ _ _ -- 10
          unfold StepWS
          intro L u w_ hj hli hwt hd K hK
          clear hd
          have HJ : Hid _ := hj
          have h8 : L 8 = false := off_of hj.s2 hli
          have HZ : Hid ((if L 8 = true then abA CR else abA [0, 0, 0, 0]) = abA [0, 0, 0, 0]) := by show _ = _; rw [h8]; rfl
          clear hj hwt hli h8
          go_simp
          exact hK.out _ _ (HJ.out.mk2 HZ.out) trivial
        · show StepWS _ _ _ _ _ _ _ _ _ -- #7
          unfold StepWS
          intro L u w_ hj hli hwt hd K hK
          have h26 : u 26 = ab Fr24.E2 := hd.get 0 (by kernel_rfl)
          clear hd
          have hl := hwt { on := 5, ground := .data } (by simp) (by kernel_rfl)
          obtain ⟨g, e9, hg, hb⟩ := hj.h1 hl
          have hx := hj.st1 hl e9 (by decide) (abA Fr24.E2)
          have hs : (if L 7 = true then abA Fr24.E2 else abA [0, 0]).size = (abA Fr24.E2).size := by split <;> rfl
          rw [if_pos (by rfl)]
          exact wp_store_row 53 (.tmp 9) (.tmp 26) rfl g (abA Fr24.E2) e9 h26 53 _ hb info2x hs (abA_one _) (hK.out undef _ hx trivial)
        · show StepWS _ _ _ _ _ _ _ _ _ -- #8
          unfold StepWS
          intro L u w_ hj hli hwt hd K hK
          have h30 : u 30 = ab CR := hd.get 4 (by kernel_rfl)
          clear hd
          have hl := hwt { on := 6, ground := .data } (by simp) (by kernel_rfl)
          obtain ⟨g, e10, hg, hb⟩ := hj.h2 hl
          have hx := hj.st2 hl e10 (by decide) (abA CR)
          have hs : (if L 8 = true then abA CR else abA [0, 0, 0, 0]).size = (abA CR).size := by split <;> simp [abA_size, HCL.out]
          have hi4 : (Tryd.prog.info? 57).map (·.size) = some (abA CR).size := by rw [abA_size, HCL.out]; exact info4x
          rw [if_pos (by rfl)]
          exact wp_store_row 57 (.tmp 10) (.tmp 30) rfl g (abA CR) e10 h30 57 _ hb hi4 hs (abA_one _) (hK.out undef _ hx trivial)
      · intro u w5 hj hA
        obtain ⟨g9, e9, hg9, hb9⟩ := hj.h1 rfl
        obtain ⟨g10, e10, hg10, hb10⟩ := hj.h2 rfl
        have HB9 : Hid (w5.heap[g9]? = some (.cells (abA Fr24.E2) 53 (0, 0))) := hb9
        have HB10 : Hid (w5.heap[g10]? = some (.cells (abA CR) 57 (0, 0))) := hb10
        have HBF : Hid (w5.heap[F]? = some (.cells (abA [0, kn]) 53 (0, 0))) := blk_keep HW4.out.2.2 hj.ch (fun f => f)
        have HBE : Hid (w5.heap[E]? = some (.cells (abA TL) 57 (0, 0))) := blk_keep HW4.out.2.1 hj.ch (fun f => f)
        have HCB : Hid (Chg (fun _ => False) w w5) := chg_then HW4.out.1 hj.ch
        simp only [e9, e10]
        clear hj hA e9 e10 hb9 hb10 HW4 HTW HSM HDG hg9 hg10
        have HNW : Hid _ := Wire.newWriter_any w5
        go_wp2_with fail
        refine Calls.mono HNW.out ?_
        rintro z wn ⟨rfl, rfl⟩
        obtain ⟨NB, hNB⟩ : ∃ N, w5.heap.size = N := ⟨_, rfl⟩
        have HNB : Hid (w5.heap.size = NB) := hNB
        obtain ⟨wa, hwa⟩ : ∃ W, w5.alloc (.cells #[.int .i64 0, .slice none 0 0] 79) = W := ⟨_, rfl⟩
        have HR0 : Hid (Wire.Wr NB wa NB (.slice none 0 0) [] ∧ Chg (fun _ => False) w wa) := by
          rw [← hwa, ← hNB]
          exact ⟨Wire.newWr_at _ _ (Nat.le_refl _), chg_then HCB.out (chg_one _ _)⟩
        have hca : Chg (fun _ => False) w5 wa := by rw [← hwa]; exact chg_one _ _
        have HB100 : Hid (g10 < NB ∧ wa.heap[g10]? = w5.heap[g10]?) := ⟨by have := lt_of_blk HB10.out; omega, by rw [blk_keep HB10.out hca (fun f => f), HB10.out]⟩
        have HBE0 : Hid (E < NB ∧ wa.heap[E]? = w5.heap[E]?) := ⟨by have := lt_of_blk HBE.out; omega, by rw [blk_keep HBE.out hca (fun f => f), HBE.out]⟩
        have HBF0 : Hid (F < NB ∧ wa.heap[F]? = w5.heap[F]?) := ⟨by have := lt_of_blk HBF.out; omega, by rw [blk_keep HBF.out hca (fun f => f), HBF.out]⟩
        have HB90 : Hid (g9 < NB ∧ wa.heap[g9]? = w5.heap[g9]?) := ⟨by have := lt_of_blk HB9.out; omega, by rw [blk_keep HB9.out hca (fun f => f), HB9.out]⟩
        rw [HB10.out] at HB100
        rw [HBE.out] at HBE0
        rw [HBF.out] at HBF0
        rw [HB9.out] at HB90
        rw [hNB, hwa]
        clear hca hwa hNB HNW
        have HP0 : Hid _ := Wire.put_m NB NB (.slice none 0 0) [] (nums CR) (some ⟨g10, 0, none⟩) 4 4 wa HR0.out.1 (by have := HR0.out.1.lt; omega) (row8_ab HB100.out.2 4 (by first | rfl | exact HCL.out | exact HTL.out) 4) (by first | decide | (simp [nums_len, Fr24.F6, Fr24.E2, HCL.out, HTL.out]; done))
        go_wp2_with fail
        refine Calls.mono HP0.out ?_
        rintro z wb0 ⟨rfl, v0, hw0, hc0, -⟩
        have HR1 : Hid (Wire.Wr NB wb0 NB v0 (nums (CR)) ∧ Chg (fun _ => False) w wb0) := ⟨by simpa only [nums_app, List.nil_append] using hw0, wr_goF (by have := HCB.out.size; have := HNB.out; omega) HR0.out.1 HR0.out.2 hc0⟩
        have HB101 : Hid (g10 < NB ∧ wb0.heap[g10]? = some _) := ⟨HB100.out.1, box_wr HR0.out.1 hc0 HB100.out.1 HB100.out.2⟩
        have HBE1 : Hid (E < NB ∧ wb0.heap[E]? = some _) := ⟨HBE0.out.1, box_wr HR0.out.1 hc0 HBE0.out.1 HBE0.out.2⟩
        have HBF1 : Hid (F < NB ∧ wb0.heap[F]? = some _) := ⟨HBF0.out.1, box_wr HR0.out.1 hc0 HBF0.out.1 HBF0.out.2⟩
        have HB91 : Hid (g9 < NB ∧ wb0.heap[g9]? = some _) := ⟨HB90.out.1, box_wr HR0.out.1 hc0 HB90.out.1 HB90.out.2⟩
        clear hw0 hc0 HP0 HR0 HB100 HBE0 HBF0 HB90
        have HP1 : Hid _ := Wire.put_m NB NB v0 (nums (CR)) (nums TL) (some ⟨E, 0, none⟩) 4 4 wb0 HR1.out.1 (by have := HR1.out.1.lt; omega) (row8_ab HBE1.out.2 4 (by first | rfl | exact HCL.out | exact HTL.out) 4) (by first | decide | (simp [nums_len, Fr24.F6, Fr24.E2, HCL.out, HTL.out]; done))
        go_wp2_with fail
        refine Calls.mono HP1.out ?_
        rintro z wb1 ⟨rfl, v1, hw1, hc1, -⟩
        have HR2 : Hid (Wire.Wr NB wb1 NB v1 (nums (CR ++ TL)) ∧ Chg (fun _ => False) w wb1) := ⟨by simpa only [nums_app, List.nil_append] using hw1, wr_goF (by have := HCB.out.size; have := HNB.out; omega) HR1.out.1 HR1.out.2 hc1⟩
        have HB102 : Hid (g10 < NB ∧ wb1.heap[g10]? = some _) := ⟨HB101.out.1, box_wr HR1.out.1 hc1 HB101.out.1 HB101.out.2⟩
        have HBE2 : Hid (E < NB ∧ wb1.heap[E]? = some _) := ⟨HBE1.out.1, box_wr HR1.out.1 hc1 HBE1.out.1 HBE1.out.2⟩
        have HBF2 : Hid (F < NB ∧ wb1.heap[F]? = some _) := ⟨HBF1.out.1, box_wr HR1.out.1 hc1 HBF1.out.1 HBF1.out.2⟩
        have HB92 : Hid (g9 < NB ∧ wb1.heap[g9]? = some _) := ⟨HB91.out.1, box_wr HR1.out.1 hc1 HB91.out.1 HB91.out.2⟩
        clear hw1 hc1 HP1 HR1 HB101 HBE1 HBF1 HB91
        have HP2 : Hid _ := Wire.put_m NB NB v1 (nums (CR ++ TL)) (nums [0, kn]) (some ⟨F, 0, none⟩) 2 2 wb1 HR2.out.1 (by have := HR2.out.1.lt; omega) (row8_ab HBF2.out.2 2 (by first | rfl | exact HCL.out | exact HTL.out) 2) (by first | decide | (simp [nums_len, Fr24.F6, Fr24.E2, HCL.out, HTL.out]; done))
        go_wp2_with fail
        refine Calls.mono HP2.out ?_
        rintro z wb2 ⟨rfl, v2, hw2, hc2, -⟩
        have HR3 : Hid (Wire.Wr NB wb2 NB v2 (nums (CR ++ TL ++ [0, kn])) ∧ Chg (fun _ => False) w wb2) := ⟨by simpa only [nums_app, List.nil_append] using hw2, wr_goF (by have := HCB.out.size; have := HNB.out; omega) HR2.out.1 HR2.out.2 hc2⟩
        have HB103 : Hid (g10 < NB ∧ wb2.heap[g10]? = some _) := ⟨HB102.out.1, box_wr HR2.out.1 hc2 HB102.out.1 HB102.out.2⟩
        have HBE3 : Hid (E < NB ∧ wb2.heap[E]? = some _) := ⟨HBE2.out.1, box_wr HR2.out.1 hc2 HBE2.out.1 HBE2.out.2⟩
        have HBF3 : Hid (F < NB ∧ wb2.heap[F]? = some _) := ⟨HBF2.out.1, box_wr HR2.out.1 hc2 HBF2.out.1 HBF2.out.2⟩
        have HB93 : Hid (g9 < NB ∧ wb2.heap[g9]? = some _) := ⟨HB92.out.1, box_wr HR2.out.1 hc2 HB92.out.1 HB92.out.2⟩
        clear hw2 hc2 HP2 HR2 HB102 HBE2 HBF2 HB92
        have HP3 : Hid _ := Wire.put_m NB NB v2 (nums (CR ++ TL ++ [0, kn])) (nums Fr24.E2) (some ⟨g9, 0, none⟩) 2 2 wb2 HR3.out.1 (by have := HR3.out.1.lt; omega) (row8_ab HB93.out.2 2 (by first | rfl | exact HCL.out | exact HTL.out) 2) (by first | decide | (simp [nums_len, Fr24.F6, Fr24.E2, HCL.out, HTL.out]; done))
        go_wp2_with fail
        refine Calls.mono HP3.out ?_
        rintro z wb3 ⟨rfl, v3, hw3, hc3, -⟩
        have HR4 : Hid (Wire.Wr NB wb3 NB v3 (nums (CR ++ TL ++ [0, kn] ++ Fr24.E2)) ∧ Chg (fun _ => False) w wb3) := ⟨by simpa only [nums_app, List.nil_append] using hw3, wr_goF (by have := HCB.out.size; have := HNB.out; omega) HR3.out.1 HR3.out.2 hc3⟩
        have HB104 : Hid (g10 < NB ∧ wb3.heap[g10]? = some _) := ⟨HB103.out.1, box_wr HR3.out.1 hc3 HB103.out.1 HB103.out.2⟩
        have HBE4 : Hid (E < NB ∧ wb3.heap[E]? = some _) := ⟨HBE3.out.1, box_wr HR3.out.1 hc3 HBE3.out.1 HBE3.out.2⟩
        have HBF4 : Hid (F < NB ∧ wb3.heap[F]? = some _) := ⟨HBF3.out.1, box_wr HR3.out.1 hc3 HBF3.out.1 HBF3.out.2⟩
        have HB94 : Hid (g9 < NB ∧ wb3.heap[g9]? = some _) := ⟨HB93.out.1, box_wr HR3.out.1 hc3 HB93.out.1 HB93.out.2⟩
        clear hw3 hc3 HP3 HR3 HB103 HBE3 HBF3 HB93
        have HLN : Hid ((CR ++ TL ++ [0, kn] ++ Fr24.E2).length = 12) := by show _ = _; simp only [List.length_append, HCL.out, HTL.out]; rfl
        have hby := Wire.bytes_any NB NB v3 (nums (CR ++ TL ++ [0, kn] ++ Fr24.E2)) wb3 HR4.out.1 (by rw [nums_len, HLN.out]; decide)
        rw [nums_len, HLN.out] at hby
        have HBY : Hid _ := hby
        clear hby
        go_wp2_with fail
        refine Calls.mono HBY.out ?_
        rintro z wz ⟨rfl, hbz, cz⟩
        have HFI : Hid (ByO wz w.heap.size (.slice (some ⟨wb3.heap.size, 0, none⟩) 12 12) (CR ++ TL ++ [0, kn] ++ Fr24.E2) ∧ Chg (fun _ => False) w wz) := by
          refine ⟨?_, chg_then HR4.out.2 cz⟩
          have h9 := byO_blkF hbz (show w.heap.size ≤ wb3.heap.size from HR4.out.2.size) (by rw [HLN.out]; decide)
          rw [HLN.out] at h9
          exact h9
        clear hbz cz HBY HR4
        go_wp2
        go_ret2
        exact ⟨_, by rw [HF.out]; rfl, by rw [HF.out]; exact HFI.out.1, HFI.out.2⟩
end Go.Proofs.YtikokgngkagieaaDoor
