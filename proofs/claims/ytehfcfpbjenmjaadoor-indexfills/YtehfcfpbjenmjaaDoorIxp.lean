/- The walk of IndexBack; of no statement by itself. -/
import Derived.Test.YtehfcfpbjenmjaaDoorIxo
namespace Go.Proofs.YtehfcfpbjenmjaaDoor
open Go.RowKit
set_option linter.unusedVariables false
set_option linter.unusedSimpArgs false
theorem many_put {l : List Rec} (h : Ix23.rightB 0 0 l = true) (hn : l.length ≤ 9223372036854775807) (t : List Nat) : (getN (((Ix23.putI l).1 ++ t).drop 1)).1 = l.length := by
  rw [Ix23.putI_0 h]
  have e1 : Ix23.body l ++ crc4 (Ix23.body l) ++ t = 0 :: (vbn l.length ++ (Ix23.recs l ++ (List.replicate (Ix23.zpad (Ix23.core l).length) 0 ++ (crc4 (Ix23.body l) ++ t)))) := by unfold Ix23.body Ix23.core; simp
  simp only
  rw [e1, List.drop_succ_cons, List.drop_zero, getN_vbn hn]
theorem cnt_take (p : List Nat) (i : Nat) : Ix23.cnt (p.take i) ≤ Ix23.cnt p := by
  have := Ix23.cnt_app (p.take i) (p.drop i)
  rw [List.take_append_drop] at this
  omega
variable {Tab : World → Prop}
set_option maxHeartbeats 16000000 in
set_option maxRecDepth 100000 in
theorem back23_any (S : IndexSpec Tab) (ad : Option Addr) (n c : Nat) (l : List Rec) (ta : Option Addr) (tn tc : Nat) (ts : List Nat) (w0 : World) (hT : Tab w0) (h : RcF w0 ad n c l) (hn : n ≤ 8796093022080) (ht : Row8 w0 ta tn tc (nums ts)) (htd : Rc.Dig ts) (htn : tn ≤ 70368744177664) : Calls Tryd.prog 5 #[.slice ad n c, .slice ta tn tc] w0 fun e w' => e = .returned (.bool true) ∧ Chg (fun _ => False) w0 w' := by
  obtain ⟨iu, hiu, hu0, hu1, hu2⟩ := info_parts info5u
  have HT : Hid (Tab w0) := hT
  have HK : Hid (∀ ww, Chg (fun _ => False) w0 ww → Calls Tryd.prog 11 #[] ww fun e w' => e = .returned (.bool true) ∧ Chg (fun _ => False) ww w') := fun ww hc => known23_any S ww (S.keep HT.out hc)
  have HP : Hid _ := S.put ad n c l w0 hT h (by omega)
  have HL0 : Hid (RcF w0 ad n c l) := h
  have HTR : Hid (Row8 w0 ta tn tc (nums ts)) := ht
  have HTD : Hid (Rc.Dig ts) := htd
  have hroom := Ix23.putI_room (l := l) (by rw [h.len]; omega)
  have HLN : Hid (l.length = n) := h.len
  have HPE : Hid ((Ix23.putI l).2 = 0 ∧ Ix23.rightB 0 0 l = true ∨ (Ix23.putI l).2 = 7 ∧ (Ix23.putI l).1 = [] ∧ 0 < n) := by
    show _ ∨ _
    by_cases hr : Ix23.rightB 0 0 l = true
    · exact .inl ⟨by rw [Ix23.putI_0 hr], hr⟩
    · refine .inr ⟨by rw [Ix23.putI_7 hr], by rw [Ix23.putI_7 hr], ?_⟩
      by_cases h0 : 0 < n
      · exact h0
      · have hl0 := HLN.out
        have : l = [] := List.eq_nil_of_length_eq_zero (by omega)
        subst this
        exact absurd rfl hr
  have HPD : Hid (Rc.Dig (Ix23.putI l).1) := Ix23.putI_dig l
  have HCT : Hid (Ix23.rightB 0 0 l = true → Ix23.cnt (Ix23.putI l).1 ≤ 2 * n + 9) := fun hr => by have := Ix23.cnt_putI hr; rw [HLN.out] at this; exact this
  have HMY : Hid (Ix23.rightB 0 0 l = true → (getN (((Ix23.putI l).1 ++ ts).drop 1)).1 ≤ 8796093022208) := fun hr => by rw [many_put hr (by rw [HLN.out]; omega), HLN.out]; omega
  have HGB : Hid (Ix23.rightB 0 0 l = true → Ix23.getI ((Ix23.putI l).1 ++ ts) = (l, (Ix23.putI l).1.length, 0)) := fun hr => Ix23.get_put hr ts
  have HGC : Hid (Ix23.rightB 0 0 l = true → ∀ i, i < (Ix23.putI l).1.length → Ix23.getI ((Ix23.putI l).1.take i) = ([], 0, 1)) := fun hr i hi => Ix23.get_cutI hr hi
  have HL8 : Hid (Ix23.rightB 0 0 l = true → 8 ≤ (Ix23.putI l).1.length ∧ (Ix23.putI l).1.length % 4 = 0) := fun hr => by
    have h1 := Ix23.putI_len hr
    have h2 := Ix23.body_four l
    omega
  obtain ⟨P, hPe⟩ : ∃ P, (Ix23.putI l).1 = P := ⟨_, rfl⟩
  obtain ⟨er, hEr⟩ : ∃ e, (Ix23.putI l).2 = e := ⟨_, rfl⟩
  rw [hPe] at HP HPE HPD HCT HMY HGB HGC HL8 hroom
  rw [hEr] at HP HPE
  obtain ⟨L, hL⟩ : ∃ L, P.length = L := ⟨_, rfl⟩
  have HL : Hid (P.length = L) := hL
  rw [hL] at HGB HGC HL8 hroom
  have hLi : (L : Int) ≤ 61572651155500 := by omega
  have hti : (tn : Int) ≤ 70368744177664 := by omega
  have hni : (n : Int) ≤ 8796093022080 := by omega
  clear hT h ht htd hPe hEr hL
  rcases HPE.out with ⟨rfl, hright⟩ | ⟨rfl, hP0, hn0⟩
  · have HR : Hid (Ix23.rightB 0 0 l = true) := hright
    obtain ⟨hL8, hL4⟩ := HL8.out hright
    have hL8i : (8 : Int) ≤ (L : Int) := by omega
    have hL4i : (L : Int) % 4 = 0 := by omega
    clear hright HPE
    go_enter Tryd.func5, Tryd.ntmps5
    go_wp2_with fail
    refine Calls.mono HP.out ?_
    rintro z w2 ⟨ov, rfl, ho, c2⟩
    obtain ⟨oa, oc, rfl⟩ := byO_form ho
    rw [HL.out] at ho ⊢
    have HC2 : Hid (Chg (fun _ => False) w0 w2) := c2
    have HRP : Hid (∀ ww, Chg (fun _ => False) w2 ww → Row8 ww oa L oc (nums P)) := fun ww hc => Bk.row8_chg (byO_row ho).1 hc
    have HOC : Hid (L ≤ oc) := (byO_row ho).2.2
    have cZ := chg_one w2 (.cells #[] 5)
    have hown := own_empty w2 5
    have hsrc := (HRP.out _ cZ).src
    have hB3 : w2.heap.size ≤ (w2.alloc (.cells #[] 5)).heap.size := cZ.size
    have HCZ : Hid (Chg (fun _ => False) w2 (w2.alloc (.cells #[] 5))) := cZ
    clear cZ ho c2 HP
    go_wp2_with fail
    refine Calls.mono (num_q _ _) ?_
    rintro z w9 ⟨rfl, rfl⟩
    go_wp2_with (at_builtin; refine wpList_append_moved rfl _ _ 22 rfl w2.heap.size 5 iu (.int .u8 0) 1 1 Tryd.underlying22 hiu hu0 hu1 hu2 rfl (by decide) _ 0 [] rfl oa L oc rfl ((nums P).map (Value.int .u8)) ?h1 ?h2 ?h3 ?m1 ?m2 ?m3 ?_)
    case h1 => exact hown
    case h2 => exact hsrc
    case h3 => exact oneB _
    case m1 => unfold maxLen; omega
    case m2 => omega
    case m3 => exact hB3
    intro v3 w3 ho3 hg3 hm3
    have c3 : Chg (fun _ => False) w2 w3 := HCZ.out.grown hg3 (fun j e => .inr (by simp [Value.ownBlock] at e; omega))
    try simp only [List.nil_append, Nat.zero_add] at ho3
    obtain ⟨ja, jc, rfl⟩ := form1 ho3
    have hown3 := ho3
    have hsrc3 := (Bk.row8_chg HTR.out (chg_then HC2.out c3)).src
    have hB4 : w2.heap.size ≤ w3.heap.size := c3.size
    have HC3 : Hid (Chg (fun _ => False) w2 w3) := c3
    clear ho3 hg3 hm3 hown hsrc hB3 HCZ c3
    go_wp2_with (at_builtin; refine wpList_append_moved rfl _ _ 22 rfl w2.heap.size 5 iu (.int .u8 0) 1 1 Tryd.underlying22 hiu hu0 hu1 hu2 rfl (by decide) _ L ((nums P).map (Value.int .u8)) rfl ta tn tc rfl ((nums ts).map (Value.int .u8)) ?g1 ?g2 ?g3 ?k1 ?k2 ?k3 ?_)
    case g1 => exact hown3
    case g2 => exact hsrc3
    case g3 => exact oneB _
    case k1 => unfold maxLen; omega
    case k2 => omega
    case k3 => exact hB4
    intro v4 w4 ho4 hg4 hm4
    have c4 : Chg (fun _ => False) w2 w4 := HC3.out.grown hg4 (fun j e => .inr ((hown3.lt j e).1))
    have hby := byO_app ho4
    obtain ⟨qa, qc, rfl⟩ := form1 ho4
    obtain ⟨hr4, _, hc4⟩ := byO_row hby
    have HC4 : Hid (Chg (fun _ => False) w0 w4) := chg_then HC2.out c4
    have HC24 : Hid (Chg (fun _ => False) w2 w4) := c4
    have HG : Hid _ := S.get qa (L + tn) qc (P ++ ts) w4 (S.keep HT.out HC4.out) hr4 (dig_app HPD.out HTD.out) hc4 (by omega) (.inl (HMY.out HR.out))
    rw [HGB.out HR.out] at HG
    clear ho4 hg4 hm4 hby hr4 hc4 c4 hown3 hsrc3 hB4 HC3
    go_wp2_with fail
    refine Calls.mono HG.out ?_
    rintro z w5 ⟨lv, rfl, hl, c5⟩
    obtain ⟨la, lc, rfl, _⟩ := formI hl
    have HC5 : Hid (Chg (fun _ => False) w0 w5) := chg_then HC4.out c5
    have HC25 : Hid (Chg (fun _ => False) w2 w5) := chg_then HC24.out c5
    have hlf := RcO.F hl (fun k q e => HL0.out.rng k q e)
    rw [HLN.out] at hlf ⊢
    have HSM : Hid _ := sameR_any la ad n lc c l w5 hlf (HL0.out.new HC5.out) (by omega)
    have d1 : ((L : Int) != (L : Int)) = false := by simp
    have d2 : ((L : Int) % 4 != 0) = false := by rw [hL4i]; rfl
    have d3 : decide ((L : Int) < 8) = false := decide_eq_false (by omega)
    have d3' : decide (L < 8) = false := decide_eq_false (by omega)
    clear hl c5 hlf HG HC4 HC24
    go_wp2_with fail
    refine Calls.mono HSM.out ?_
    rintro z w6 ⟨rfl, k6, rfl⟩
    have HC6 : Hid (Chg (fun _ => False) w0 (w5.drewN k6)) := chg_then HC5.out (chg_drewN w5 k6)
    have HC26 : Hid (Chg (fun _ => False) w2 (w5.drewN k6)) := chg_then HC25.out (chg_drewN w5 k6)
    clear HSM HC5 HC25
    generalize w5.drewN k6 = w6 at *
    go_wp2_with fail
    refine Calls.mono (num_q _ _) ?_
    rintro z w9 ⟨rfl, rfl⟩
    clear d2 d3 d3' hL4i
    go_wp2_with fail
    go_loopw [74] (fun j wr => ∃ i : Nat, i ≤ L ∧ j = .int .i64 (i : Int) ∧ Hid (Chg (fun _ => False) w0 wr) ∧ Hid (Chg (fun _ => False) w2 wr)) (fun j _ => L - (intOf j).toNat)
    case atStart => exact ⟨0, by omega, rfl, HC6.out, HC26.out⟩
    case round =>
      obtain ⟨i, hi, rfl, HC, HC9⟩ := hrel
      have hii : (i : Int) ≤ (L : Int) := by omega
      by_cases hlt : i < L
      · have g1 : decide ((i : Int) < (L : Int)) = true := decide_eq_true (by omega)
        have g1' : decide (i < L) = true := decide_eq_true hlt
        have hcut : ∀ ww, (Instr.sliceAt 22 (.slice oa L oc) none (some (.int .i64 (i : Int))) none).run Tryd.prog ww = .ok (.slice oa i oc) ww := fun ww => run_cutZ_hi undBy elemBy sizeBy _ L oc i ww (by have := HOC.out; omega)
        have hct := cnt_take P i
        have hct2 := HCT.out HR.out
        unfold Ix23.cnt at hct hct2
        have HG : Hid _ := S.get oa i oc (P.take i) wr (S.keep HT.out HC.out) (row8_take (HRP.out wr HC9.out) hi) (dig_take HPD.out i) (by have := HOC.out; omega) (by omega) (.inr (by omega))
        rw [HGC.out HR.out i hlt] at HG
        clear hct hct2
        go_wp2_with fail
        refine Calls.mono HG.out ?_
        rintro z w7 ⟨lv, rfl, hl, c7⟩
        obtain ⟨la7, lc7, rfl, _⟩ := formI hl
        have HC7 : Hid (Chg (fun _ => False) w0 w7) := chg_then HC.out c7
        have HC27 : Hid (Chg (fun _ => False) w2 w7) := chg_then HC9.out c7
        clear hl c7 HG hcut
        go_wp2_with fail
        refine Calls.mono (num_q _ _) ?_
        rintro z w9 ⟨rfl, rfl⟩
        go_wp2
        go_roundw
        case rel => exact ⟨i + 1, by omega, by go_num, HC7, HC27⟩
        case measure => simp [intOf]; omega
      · obtain rfl : i = L := by omega
        go_wp2_with fail
        refine Calls.mono (HK.out _ HC.out) ?_
        rintro z w9 ⟨rfl, c9⟩
        have HC9 : Hid (Chg (fun _ => False) w0 w9) := chg_then HC.out c9
        clear c9
        go_wp2
        go_ret
        exact ⟨rfl, HC9.out⟩
  · have hL0 : L = 0 := by
      have h1 := HL.out
      rw [hP0] at h1
      simpa using h1.symm
    subst hL0
    have d1 : decide (0 < (n : Int)) = true := decide_eq_true (by omega)
    have d1' : decide (0 < n) = true := decide_eq_true hn0
    go_enter Tryd.func5, Tryd.ntmps5
    go_wp2_with fail
    refine Calls.mono HP.out ?_
    rintro z w2 ⟨ov, rfl, ho, c2⟩
    obtain ⟨oa, oc, rfl⟩ := byO_form ho
    rw [HL.out] at ho ⊢
    have HC2 : Hid (Chg (fun _ => False) w0 w2) := c2
    clear ho c2 HP
    go_wp2_with fail
    refine Calls.mono (num_q _ _) ?_
    rintro z w9 ⟨rfl, rfl⟩
    go_wp2_with fail
    refine Calls.mono (num_q _ _) ?_
    rintro z w9 ⟨rfl, rfl⟩
    go_wp2_with fail
    refine Calls.mono (HK.out _ HC2.out) ?_
    rintro z w9 ⟨rfl, c9⟩
    have HC9 : Hid (Chg (fun _ => False) w0 w9) := chg_then HC2.out c9
    clear c9
    go_wp2
    go_ret
    exact ⟨rfl, HC9.out⟩
end Go.Proofs.YtehfcfpbjenmjaaDoor
