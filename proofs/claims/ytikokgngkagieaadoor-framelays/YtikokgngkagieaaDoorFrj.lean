/- The walk of FrameLays above what is asked of frame; of no statement by itself. -/
import Derived.Test.YtikokgngkagieaaDoorFri
namespace Go.Proofs.YtikokgngkagieaaDoor
open Go.RowKit
set_option linter.unusedVariables false
set_option linter.unusedSimpArgs false
theorem headF_le (k : Int) : (Fr24.headF k).1.length ≤ 12 := by
  unfold Fr24.headF
  split
  · rw [show ((Fr24.headB k.toNat, (0 : Int)).1).length = 12 from Fr24.headB_len _]; exact Nat.le_refl _
  · exact Nat.zero_le _
theorem footF_le (k n : Int) : (Fr24.footF k n).1.length ≤ 12 := by
  unfold Fr24.footF
  split
  · split
    · exact Nat.zero_le _
    · rw [show ((Fr24.footB k.toNat n.toNat, (0 : Int)).1).length = 12 from Fr24.footB_len _ _]; exact Nat.le_refl _
  · exact Nat.zero_le _
variable {Tab : World → Prop}
set_option maxHeartbeats 32000000 in
set_option maxRecDepth 100000 in
theorem lays24_any (S : FrameSpec Tab) (kn qn : Int) (w0 : World) (hT : Tab w0) (hk : I64 kn) (hq : I64 qn) : Calls Tryd.prog 5 #[.int .i64 kn, .int .i64 qn] w0 fun e w' => e = .returned (.bool true) ∧ Chg (fun _ => False) w0 w' := by
  obtain ⟨P, hP⟩ : ∃ p, (Fr24.headF kn).1 = p := ⟨_, rfl⟩
  obtain ⟨EP, hEP⟩ : ∃ p, (Fr24.headF kn).2 = p := ⟨_, rfl⟩
  obtain ⟨R, hR⟩ : ∃ p, (Fr24.footF kn qn).1 = p := ⟨_, rfl⟩
  obtain ⟨ER, hER⟩ : ∃ p, (Fr24.footF kn qn).2 = p := ⟨_, rfl⟩
  obtain ⟨L, hL⟩ : ∃ l, P.length = l := ⟨_, rfl⟩
  obtain ⟨M, hM⟩ : ∃ l, R.length = l := ⟨_, rfl⟩
  have hL12 : L ≤ 12 := by rw [← hL, ← hP]; exact headF_le _
  have hM12 : M ≤ 12 := by rw [← hM, ← hR]; exact footF_le _ _
  have hLi : (L : Int) ≤ 12 := by omega
  have hMi : (M : Int) ≤ 12 := by omega
  have HH : Hid (∀ w, Chg (fun _ => False) w0 w → Calls Tryd.prog 8 #[.int .i64 kn] w fun e w' => ∃ oa oc, e = .returned (.tuple #[.slice oa L oc, .int .i64 EP]) ∧ ByO w' w.heap.size (.slice oa L oc) P ∧ Chg (fun _ => False) w w') := fun w hw => by
    have h9 := S.head kn w (S.keep hT hw) hk
    rw [hP, hEP] at h9
    refine h9.mono ?_
    rintro e w' ⟨ov, rfl, ho, c9⟩
    obtain ⟨oa, oc, rfl⟩ := byO_form ho
    rw [hL] at ho ⊢
    exact ⟨oa, oc, rfl, ho, c9⟩
  have HF : Hid (∀ w, Chg (fun _ => False) w0 w → Calls Tryd.prog 9 #[.int .i64 kn, .int .i64 qn] w fun e w' => ∃ oa oc, e = .returned (.tuple #[.slice oa M oc, .int .i64 ER]) ∧ ByO w' w.heap.size (.slice oa M oc) R ∧ Chg (fun _ => False) w w') := fun w hw => by
    have h9 := S.foot kn qn w (S.keep hT hw) hk hq
    rw [hR, hER] at h9
    refine h9.mono ?_
    rintro e w' ⟨ov, rfl, ho, c9⟩
    obtain ⟨oa, oc, rfl⟩ := byO_form ho
    rw [hM] at ho ⊢
    exact ⟨oa, oc, rfl, ho, c9⟩
  have HRH : Hid (∀ w, Calls Tryd.prog 15 #[.int .i64 kn] w fun e w' => ∃ oa oc, e = .returned (.tuple #[.slice oa L oc, .int .i64 EP]) ∧ Row8 w' oa L oc (nums P) ∧ Chg (fun _ => False) w w') := fun w => by
    have h9 := rheader_any kn w
    rw [hP, hEP, hL] at h9
    exact h9
  have HRF : Hid (∀ w, Calls Tryd.prog 16 #[.int .i64 kn, .int .i64 qn] w fun e w' => ∃ oa oc, e = .returned (.tuple #[.slice oa M oc, .int .i64 ER]) ∧ Row8 w' oa M oc (nums R) ∧ Chg (fun _ => False) w w') := fun w => by
    have h9 := rfooter_any kn qn w hq
    rw [hR, hER, hM] at h9
    exact h9
  have HFX : Hid (∀ w, Chg (fun _ => False) w0 w → Calls Tryd.prog 10 #[] w fun e w' => e = .returned (.bool true) ∧ Chg (fun _ => False) w w') := fun w hw => fixed24_any S w (S.keep hT hw)
  have HB0 : Hid (∀ w, Chg (fun _ => False) w0 w → w0.heap.size ≤ w.heap.size) := fun w hw => hw.size
  clear hT hP hEP hR hER hL hM hk hq
  go_enter Tryd.func5, Tryd.ntmps5
  go_wp2_with fail
  refine Calls.mono (HH.out w0 (Chg.refl _ _)) ?_
  rintro z w1 ⟨ha, hcp, rfl, h1, c1⟩
  have HC1 : Hid (Chg (fun _ => False) w0 w1) := c1
  have HO1 : Hid (ByO w1 w0.heap.size (.slice ha L hcp) P) := h1
  have HT1 : Hid (∀ g, (Value.slice ha L hcp).ownBlock = some g → w0.heap.size ≤ g ∧ g < w1.heap.size) := fun g e => h1.lt g e
  have HB1 : Hid (w0.heap.size ≤ w1.heap.size) := c1.size
  clear c1 h1
  go_wp2_with fail
  refine Calls.mono (HRH.out w1) ?_
  rintro z w2 ⟨ia, icp, rfl, h2, c2⟩
  have HC2 : Hid (Chg (fun _ => False) w0 w2) := chg_then HC1.out c2
  have HR2 : Hid (Row8 w2 ia L icp (nums P)) := h2
  have HO2 : Hid (ByO w2 w0.heap.size (.slice ha L hcp) P) := HO1.out.new c2
  have HS2 : Hid (w1.heap.size ≤ w2.heap.size) := c2.size
  clear c2 h2 HO1 HC1
  go_wp2_with fail
  refine Calls.mono (HF.out w2 HC2.out) ?_
  rintro z w3 ⟨ka, kcp, rfl, h3, c3⟩
  have HC3 : Hid (Chg (fun _ => False) w0 w3) := chg_then HC2.out c3
  have HR3 : Hid (Row8 w3 ia L icp (nums P)) := Bk.row8_chg HR2.out c3
  have HO3 : Hid (ByO w3 w0.heap.size (.slice ha L hcp) P) := HO2.out.new c3
  have HF3 : Hid (ByO w3 w0.heap.size (.slice ka M kcp) R) := owns_base h3 (HB0.out w2 HC2.out)
  have HT3 : Hid (∀ g, (Value.slice ka M kcp).ownBlock = some g → w1.heap.size ≤ g ∧ g < w3.heap.size) := fun g e => by
    have h9 := h3.lt g e
    exact ⟨Nat.le_trans HS2.out h9.1, h9.2⟩
  have HS13 : Hid (w1.heap.size ≤ w3.heap.size) := Nat.le_trans HS2.out c3.size
  clear c3 h3 HO2 HR2 HC2 HS2
  go_wp2_with fail
  refine Calls.mono (HRF.out w3) ?_
  rintro z w4 ⟨la, lcp, rfl, h4, c4⟩
  have HC4 : Hid (Chg (fun _ => False) w0 w4) := chg_then HC3.out c4
  have HR4 : Hid (Row8 w4 ia L icp (nums P)) := Bk.row8_chg HR3.out c4
  have HQ4 : Hid (Row8 w4 la M lcp (nums R)) := h4
  have HO4 : Hid (ByO w4 w0.heap.size (.slice ha L hcp) P) := HO3.out.new c4
  have HF4 : Hid (ByO w4 w0.heap.size (.slice ka M kcp) R) := HF3.out.new c4
  have HS4 : Hid (w3.heap.size ≤ w4.heap.size) := c4.size
  have hv1 : (convert 22 9 (.slice ha L hcp)).run Tryd.prog w4 = .ok (.string (strOfNums (nums P))) w4 := Bk.conv8_here (byO_row HO4.out).1
  have hv2 : (convert 22 9 (.slice ia L icp)).run Tryd.prog w4 = .ok (.string (strOfNums (nums P))) w4 := Bk.conv8_here HR4.out
  have hv3 : (convert 22 9 (.slice ka M kcp)).run Tryd.prog w4 = .ok (.string (strOfNums (nums R))) w4 := Bk.conv8_here (byO_row HF4.out).1
  have hv4 : (convert 22 9 (.slice la M lcp)).run Tryd.prog w4 = .ok (.string (strOfNums (nums R))) w4 := Bk.conv8_here h4
  obtain ⟨SP, hSP⟩ : ∃ s, strOfNums (nums P) = s := ⟨_, rfl⟩
  obtain ⟨SR, hSR⟩ : ∃ s, strOfNums (nums R) = s := ⟨_, rfl⟩
  have HSP : Hid (strOfNums (nums P) = SP) := hSP
  have HSR : Hid (strOfNums (nums R) = SR) := hSR
  rw [hSP] at hv1 hv2
  rw [hSR] at hv3 hv4
  have eP : (EP != EP) = false := by simp
  have eR : (ER != ER) = false := by simp
  have sP : (SP.toList == SP.toList) = true := by simp
  have sR : (SR.toList == SR.toList) = true := by simp
  clear c4 h4 HO3 HF3 HR3 HC3 hSP hSR
  go_wp2_with fail
  refine Calls.mono (HFX.out w4 HC4.out) ?_
  rintro z w5 ⟨rfl, c5⟩
  have HC5 : Hid (Chg (fun _ => False) w0 w5) := chg_then HC4.out c5
  have HR5 : Hid (Row8 w5 ia L icp (nums P)) := Bk.row8_chg HR4.out c5
  have HQ5 : Hid (Row8 w5 la M lcp (nums R)) := Bk.row8_chg HQ4.out c5
  have HO5 : Hid (ByO w5 w0.heap.size (.slice ha L hcp) P) := HO4.out.new c5
  have HF5 : Hid (ByO w5 w0.heap.size (.slice ka M kcp) R) := HF4.out.new c5
  have HS5 : Hid (w3.heap.size ≤ w5.heap.size) := Nat.le_trans HS4.out c5.size
  clear c5 hv1 hv2 hv3 hv4 HO4 HF4 HR4 HQ4 HC4 HS4
  go_wp2_with fail
  refine Calls.mono (HH.out w5 HC5.out) ?_
  rintro z w6 ⟨ga, gcp, rfl, h6, c6⟩
  have HC6 : Hid (Chg (fun _ => False) w0 w6) := chg_then HC5.out c6
  have HR6 : Hid (Row8 w6 ia L icp (nums P)) := Bk.row8_chg HR5.out c6
  have HQ6 : Hid (Row8 w6 la M lcp (nums R)) := Bk.row8_chg HQ5.out c6
  have HO6 : Hid (ByO w6 w0.heap.size (.slice ha L hcp) P) := HO5.out.new c6
  have HF6 : Hid (ByO w6 w0.heap.size (.slice ka M kcp) R) := HF5.out.new c6
  have HG6 : Hid (ByO w6 w0.heap.size (.slice ga L gcp) P) := owns_base h6 (HB0.out w5 HC5.out)
  have HT6 : Hid (∀ g, (Value.slice ga L gcp).ownBlock = some g → w3.heap.size ≤ g ∧ g < w6.heap.size) := fun g e => by
    have h9 := h6.lt g e
    exact ⟨Nat.le_trans HS5.out h9.1, h9.2⟩
  have HS36 : Hid (w1.heap.size ≤ w3.heap.size ∧ w3.heap.size ≤ w6.heap.size ∧ w1.heap.size ≤ w6.heap.size) := by
    have h9 := HS13.out
    have h10 := Nat.le_trans HS5.out c6.size
    show _ ∧ _ ∧ _
    omega
  clear c6 h6 HO5 HF5 HR5 HQ5 HC5 HS5 HS13
  go_wp2_with fail
  refine Calls.mono (HF.out w6 HC6.out) ?_
  rintro z w7 ⟨ma, mcp, rfl, h7, c7⟩
  have HC7 : Hid (Chg (fun _ => False) w0 w7) := chg_then HC6.out c7
  have HR7 : Hid (Row8 w7 ia L icp (nums P)) := Bk.row8_chg HR6.out c7
  have HQ7 : Hid (Row8 w7 la M lcp (nums R)) := Bk.row8_chg HQ6.out c7
  have HO7 : Hid (ByO w7 w0.heap.size (.slice ha L hcp) P) := HO6.out.new c7
  have HF7 : Hid (ByO w7 w0.heap.size (.slice ka M kcp) R) := HF6.out.new c7
  have HG7 : Hid (ByO w7 w0.heap.size (.slice ga L gcp) P) := HG6.out.new c7
  have HM7 : Hid (ByO w7 w0.heap.size (.slice ma M mcp) R) := owns_base h7 (HB0.out w6 HC6.out)
  have HT7 : Hid (∀ g, (Value.slice ma M mcp).ownBlock = some g → w6.heap.size ≤ g ∧ g < w7.heap.size) := fun g e => h7.lt g e
  have HBB : Hid (w0.heap.size ≤ w7.heap.size) := HC7.out.size
  have hv1 : (convert 22 9 (.slice ga L gcp)).run Tryd.prog w7 = .ok (.string SP) w7 := by rw [← HSP.out]; exact Bk.conv8_here (byO_row HG7.out).1
  have hv2 : (convert 22 9 (.slice ia L icp)).run Tryd.prog w7 = .ok (.string SP) w7 := by rw [← HSP.out]; exact Bk.conv8_here HR7.out
  have hv3 : (convert 22 9 (.slice ma M mcp)).run Tryd.prog w7 = .ok (.string SR) w7 := by rw [← HSR.out]; exact Bk.conv8_here (byO_row HM7.out).1
  have hv4 : (convert 22 9 (.slice la M lcp)).run Tryd.prog w7 = .ok (.string SR) w7 := by rw [← HSR.out]; exact Bk.conv8_here HQ7.out
  have zP : (SP.toList != SP.toList) = false := by simp
  have zR : (SR.toList != SR.toList) = false := by simp
  clear c7 h7 HO6 HF6 HR6 HQ6 HC6 HG6
  have HX1 : Hid _ := apart24_any w0.heap.size ha ga L L hcp gcp P P w7 HO7.out HG7.out (fun g e f => by have h8 := HT1.out g e; have h9 := HT6.out g f; have h10 := HS36.out; omega) hL12 hL12 HBB.out
  go_wp2_with fail
  clear hv1 hv2 hv3 hv4 zP zR eP eR sP sR HR7 HQ7
  refine Calls.mono HX1.out ?_
  rintro z w8 ⟨rfl, h8, _, c8⟩
  have HC8 : Hid (Chg (fun _ => False) w0 w8) := HC7.out.trans c8 (fun k e => .inr (by rcases e with e | e; exact (HT1.out k e).1; have h9 := (HT6.out k e).1; have h10 := HS36.out; have h11 := HB1.out; omega))
  have HO8 : Hid (ByO w8 w0.heap.size (.slice ha L hcp) (List.replicate L 1)) := h8
  have HF8 : Hid (ByO w8 w0.heap.size (.slice ka M kcp) R) := ownsRow_keep HF7.out c8 (fun g e f => by
    have h9 := HT3.out g e
    have h10 := HS36.out
    rcases f with f | f
    · have h11 := HT1.out g f; omega
    · have h11 := HT6.out g f; omega)
  have HM8 : Hid (ByO w8 w0.heap.size (.slice ma M mcp) R) := ownsRow_keep HM7.out c8 (fun g e f => by
    have h9 := HT7.out g e
    have h10 := HS36.out
    rcases f with f | f
    · have h11 := HT1.out g f; omega
    · have h11 := HT6.out g f; omega)
  have HB8 : Hid (w0.heap.size ≤ w8.heap.size) := HC8.out.size
  have HX2 : Hid _ := apart24_any w0.heap.size ka ma M M kcp mcp R R w8 HF8.out HM8.out (fun g e f => by have h8 := HT3.out g e; have h9 := HT7.out g f; have h10 := HS36.out; omega) hM12 hM12 HB8.out
  clear h8 c8 HX1 HO7 HF7 HG7 HM7 HC7
  go_wp2_with fail
  refine Calls.mono HX2.out ?_
  rintro z w9 ⟨rfl, h9, _, c9⟩
  have HC9 : Hid (Chg (fun _ => False) w0 w9) := HC8.out.trans c9 (fun k e => .inr (by have h10 := HS36.out; have h11 := HB1.out; rcases e with e | e; have h12 := HT3.out k e; omega; have h12 := HT7.out k e; omega))
  have HF9 : Hid (ByO w9 w0.heap.size (.slice ka M kcp) (List.replicate M 1)) := h9
  have HO9 : Hid (ByO w9 w0.heap.size (.slice ha L hcp) (List.replicate L 1)) := ownsRow_keep HO8.out c9 (fun g e f => by
    have h9 := HT1.out g e
    have h10 := HS36.out
    rcases f with f | f
    · have h11 := HT3.out g f; omega
    · have h11 := HT7.out g f; omega)
  have HB9 : Hid (w0.heap.size ≤ w9.heap.size) := HC9.out.size
  have HX3 : Hid _ := apart24_any w0.heap.size ha ka L M hcp kcp _ _ w9 HO9.out HF9.out (fun g e f => by have h8 := HT1.out g e; have h9 := HT3.out g f; have h10 := HS36.out; omega) hL12 hM12 HB9.out
  clear h9 c9 HX2 HO8 HF8 HM8 HC8
  go_wp2_with fail
  refine Calls.mono HX3.out ?_
  rintro z wA ⟨rfl, _, _, cA⟩
  have HCA : Hid (Chg (fun _ => False) w0 wA) := HC9.out.trans cA (fun k e => .inr (by have h10 := HS36.out; have h11 := HB1.out; rcases e with e | e; exact (HT1.out k e).1; have h12 := HT3.out k e; omega))
  clear cA HX3
  go_wp2_with fail
  refine Calls.mono (HFX.out wA HCA.out) ?_
  rintro z wB ⟨rfl, cB⟩
  have HCB : Hid (Chg (fun _ => False) w0 wB) := chg_then HCA.out cB
  clear cB
  go_wp2
  go_ret
  exact ⟨rfl, HCB.out⟩
end Go.Proofs.YtikokgngkagieaaDoor
