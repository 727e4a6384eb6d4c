/- Data cut anywhere: the walk of DeltaCuts; of no statement by itself. -/
import Derived.Test.YtefplppgkoanbaaDp
import Derived.Test.YtefplppgkoanbaaDa
namespace Go.Proofs.Ytefplppgkoanbaa
open Go.RowKit
set_option linter.unusedVariables false
set_option linter.unusedSimpArgs false
variable {Fi : World → Nat → Nat → (Nat → Prop) → Nat → Bool → List Nat → Prop}
theorem cut_rem {x : Int} {k : Nat} (hx : 0 ≤ x) (hk : 0 < k) : ∃ K : Nat, x.tmod (k : Int) = (K : Int) ∧ K < k := by
  obtain ⟨y, rfl⟩ : ∃ y : Nat, x = (y : Int) := ⟨x.toNat, by omega⟩
  exact ⟨y % k, rfl, Nat.mod_lt _ hk⟩
theorem own_none {k : Nat} (e : (Value.slice none 0 0).ownBlock = some k) : False := by simp [Value.ownBlock] at e
set_option maxHeartbeats 16000000 in
set_option maxRecDepth 100000 in
theorem dcuts_any (S : DeltaSpec Fi) (ad : Option Addr) (n c : Nat) (bs : List Nat) (m : Int) (hm : I64 m) (ca : Option Addr) (mc cc : Nat) (cl : List Int) (hcl : cl.length = mc) (hmc : mc ≤ 17592186043904) (hci : ∀ k ∈ cl, I64 k) (w0 : World) (hr : Row8 w0 ad n c (nums bs)) (hg : Rc.Dig bs) (hn : n ≤ 140737488351232) (hnc : n ≤ c) (hi : IntD w0 ca cl) : Calls Try.prog 6 #[.slice ad n c, .int .i64 m, .slice ca mc cc] w0 fun e w' => e = .returned (.bool true) ∧ Chg (fun _ => False) w0 w' := by
  have hni : (n : Int) ≤ 140737488351232 := by omega
  have hmi : (mc : Int) ≤ 17592186043904 := by omega
  obtain ⟨iu, hiu, hu0, hu1, hu2⟩ := info_parts info5u
  have hbl : bs.length = n := by have h9 := hr.1; rw [nums_len] at h9; exact h9
  have HBL : Hid (bs.length = n) := hbl
  have HR : Hid (Row8 w0 ad n c (nums bs) ∧ Rc.Dig bs ∧ n ≤ c) := ⟨hr, hg, hnc⟩
  have HCL : Hid (cl.length = mc ∧ (∀ k ∈ cl, I64 k) ∧ IntD w0 ca cl) := ⟨hcl, hci, hi⟩
  have HD : Hid _ := distance_q m hm w0
  have HG := dN_good m
  obtain ⟨d, hd⟩ : ∃ d, dN m = d := ⟨_, rfl⟩
  rw [hd] at HD HG
  have HGD : Hid (goodD (d : Int)) := HG.1
  have HN1 : Hid _ := S.new d false w0 HG.1
  have hdi : (d : Int) ≤ 256 := by have := HG.2.2; omega
  clear hbl hr hg hd HG hnc hcl hci hi hm
  go_enter Try.func6, Try.ntmps6
  go_wp2_with fail
  refine Calls.mono HD.out ?_
  rintro zz w0 ⟨rfl, rfl⟩
  clear HD
  go_wp2_with fail
  refine Calls.mono HN1.out ?_
  rintro zz w1 ⟨f, F, rfl, hF, c1⟩
  have HF : Hid (Fi w1 w0.heap.size f F d false [] ∧ Chg (fun _ => False) w0 w1) := ⟨hF, c1⟩
  have HN2 : Hid _ := S.new d true w1 HGD.out
  clear hF c1 HN1
  go_wp2_with fail
  refine Calls.mono HN2.out ?_
  rintro zz w2 ⟨g, G, rfl, hG, c2⟩
  have HG : Hid (Fi w2 w1.heap.size g G d true [] ∧ Chg (fun _ => False) w1 w2) := ⟨hG, c2⟩
  have HB : Hid _ := both_any S d HGD.out ad n c bs w2 (Bk.row8_chg HR.out.1 (chg_then HF.out.2 c2)) HR.out.2.1 (by omega)
  clear hG c2 HN2
  go_wp2_with fail
  refine Calls.mono HB.out ?_
  rintro zz w3 ⟨x, y, rfl, hx, hy, hxy, c3⟩
  obtain ⟨xa, xc, rfl⟩ := byO_form hx
  obtain ⟨ya, yc, rfl⟩ := byO_form hy
  have hlx : (De19.cd false d bs).length = n := by rw [De19.cd_len]; exact HBL.out
  have hly : (De19.cd true d bs).length = n := by rw [De19.cd_len]; exact HBL.out
  rw [hlx, hly]
  rw [hlx] at hx
  rw [hly] at hy
  have HS : Hid (Dc Fi w0 w3 d f false (bs.take 0) (.slice none 0 0) g true (bs.take 0) (.slice none 0 0) (.slice xa n xc) (De19.cd false d bs) (.slice ya n yc) (De19.cd true d bs)) := by
    rw [List.take_zero]
    have s1 := HF.out.2.size
    have s2 := HG.out.2.size
    refine ⟨F, G, ?_⟩
    exact {
      chg := chg_then (chg_then HF.out.2 HG.out.2) c3
      fi := S.keep (S.keep HF.out.1 HG.out.2 (fun _ _ f => f)) c3 (fun _ _ f => f)
      gi := S.keep (S.down HG.out.1 s1) c3 (fun _ _ f => f)
      fg := fun z a b => by have := (S.lt HF.out.1 z a).2; have := (S.lt HG.out.1 z b).1; omega
      ou := byO_nil _ _
      ov := byO_nil _ _
      ox := owns_base hx (by omega)
      oy := owns_base hy (by omega)
      nu := fun k e => (own_none e).elim
      nv := fun k e => (own_none e).elim
      nx := fun k e => ⟨fun a => by have := (S.lt HF.out.1 k a).2; have := (byO_lt hx e).1; omega, fun a => by have := (S.lt HG.out.1 k a).2; have := (byO_lt hx e).1; omega⟩
      ny := fun k e => ⟨fun a => by have := (S.lt HF.out.1 k a).2; have := (byO_lt hy e).1; omega, fun a => by have := (S.lt HG.out.1 k a).2; have := (byO_lt hy e).1; omega⟩
      uv := fun k e => (own_none e).elim
      ux := fun k e => (own_none e).elim
      uy := fun k e => (own_none e).elim
      vx := fun k e => (own_none e).elim
      vy := fun k e => (own_none e).elim }
  clear hx hy hxy c3 hlx hly HB HF HG
  go_wp2_with fail
  go_loopw [15, 16, 17, 59] (fun v15 v16 v17 v59 wr => ∃ (i T uc vc : Nat) (ua va : Option Addr), i ≤ mc ∧ T ≤ n ∧ v15 = .slice ua T uc ∧ v16 = .slice va T vc ∧ v17 = .int .i64 (T : Int) ∧ v59 = .int .i64 (i : Int) ∧ Hid (Dc Fi w0 wr d f false (bs.take T) (.slice ua T uc) g true (bs.take T) (.slice va T vc) (.slice xa n xc) (De19.cd false d bs) (.slice ya n yc) (De19.cd true d bs))) (fun _ _ _ v59 _ => mc - (intOf v59).toNat)
  case atStart => exact ⟨0, 0, 0, 0, none, none, by omega, by omega, rfl, rfl, rfl, rfl, HS.out⟩
  case round =>
    clear HS
    obtain ⟨i, T, uc, vc, ua, va, hi, hTn, rfl, rfl, rfl, rfl, HJ⟩ := hrel
    have hii : (i : Int) ≤ 17592186043904 := by omega
    have hTi : (T : Int) ≤ 140737488351232 := by omega
    have HTN : Hid (T ≤ n) := hTn
    by_cases hin : i < mc
    rotate_left
    · have d0 : decide (i < mc) = false := decide_eq_false hin
      obtain ⟨K, hKn⟩ : ∃ K, n - T = K := ⟨_, rfl⟩
      have hTK : T + K ≤ n := by omega
      have HKN : Hid (T + K = n) := by show _ = _; omega
      have HTK : Hid (T + K ≤ n) := hTK
      have hKi : (K : Int) ≤ 140737488351232 := by omega
      have hTKi : (T : Int) + (K : Int) ≤ 140737488351232 := by omega
      obtain ⟨P, hP⟩ : ∃ P, (bs.drop T).take K = P := ⟨_, rfl⟩
      obtain ⟨CA, hCA⟩ : ∃ CA, cutZ ad c T 1 = CA := ⟨_, rfl⟩
      have HP : Hid ((bs.drop T).take K = P ∧ P.length = K ∧ Rc.Dig P ∧ bs.take T ++ P = bs.take (T + K)) := ⟨hP, by rw [← hP, List.length_take, List.length_drop, HBL.out]; omega, by rw [← hP]; exact fun z hz => HR.out.2.1 z (List.mem_of_mem_drop (List.mem_of_mem_take hz)), by rw [← hP, List.take_add]⟩
      have HCA : Hid (cutZ ad c T 1 = CA) := hCA
      have hcut : ∀ ww, (Instr.sliceAt 22 (.slice ad n c) (some (.int .i64 (T : Int))) none none).run Try.prog ww = .ok (.slice CA K (c - T)) ww := fun ww => by
        rw [← hCA, ← hKn]
        exact run_cutZ_lo undBy elemBy sizeBy ad n c T ww HTN.out
      clear hP hCA hTK hKn
      obtain ⟨F1, G1, hF1⟩ := HJ.out
      have HF1 : Hid _ := hF1
      have cE := chg_one wr (.cells #[] 5)
      have hoE := own_empty wr 5
      have hsrc := (Bk.row8_chg (row8_part (Bk.row8_chg HR.out.1 (chg_then hF1.chg cE)) HR.out.2.2 T K HTK.out) (Chg.refl _ _)).src
      rw [HP.out.1, HCA.out] at hsrc
      have hone := oneB P
      have hB : wr.heap.size ≤ (wr.alloc (.cells #[] 5)).heap.size := cE.size
      have HCE : Hid (Chg (fun _ => False) wr (wr.alloc (.cells #[] 5))) := cE
      clear cE hF1 HJ
      go_wp2_with (at_builtin; refine wpList_append_moved rfl _ _ 22 rfl wr.heap.size 5 iu (.int .u8 0) 1 1 Try.underlying22 hiu hu0 hu1 hu2 rfl (by decide) _ 0 [] rfl CA K (c - T) rfl ((nums P).map (Value.int .u8)) ?h1_1 ?h2_1 ?h3_1 ?m1_1 ?m2_1 ?m3_1 ?_)
      all_goals try (first | exact hoE | exact hsrc | exact hone | exact hB | exact fun _ _ => rfl | (unfold maxLen; have := HTK.out; omega) | (have := HTK.out; omega))
      intro v1 w1a ho1 hg1 hm1
      have c1 : Chg (fun _ => False) wr w1a := HCE.out.grown hg1 (fun j e => .inr (by simp [Value.ownBlock] at e; omega))
      try simp only [List.nil_append, Nat.zero_add] at ho1
      obtain ⟨p1, q1, rfl⟩ := form1 ho1
      have HF1a : Hid _ := HF1.out.new S c1
      have HX1 : Hid _ := S.next w0.heap.size f d F1 false (bs.take T) p1 K q1 P w1a HF1a.out.fi HF1a.out.chg.size (row8_own (xs := nums P) ho1) (off_own ho1 (fun z f => (S.lt HF1.out.fi z f).2)) HP.out.2.2.1 (own_cap ho1) (by omega)
      clear hoE hsrc hone hB HCE ho1 hg1 hm1 c1 HF1
      go_wp2_with fail
      refine Calls.mono HX1.out ?_
      rintro zz w1b ⟨o1, F1', rfl, hf1, hq1, hz1, cb1, hff1⟩
      obtain ⟨oa1, oc1, rfl⟩ := byO_form hq1
      have hlp : (De19.piece false d (bs.take T) P).length = K := by rw [De19.piece_len]; exact HP.out.2.1
      rw [hlp]
      rw [hlp] at hq1 hz1
      have hlt : (De19.cd false d (bs.take T)).length = T := by rw [De19.cd_len, List.length_take, HBL.out]; have := HTN.out; omega
      have hown : w1b.ownsRow w0.heap.size 5 1 (.slice ua T uc) T ((nums (De19.cd false d (bs.take T))).map (Value.int .u8)) := by
        have h9 := HF1a.out.ou
        unfold ByO at h9
        rw [hlt] at h9
        exact ownsRow_keep h9 cb1 (fun j e => (HF1a.out.nu j e).1)
      have hsrc := (byO_row' hq1).src
      have hone := oneB (De19.piece false d (bs.take T) P)
      have hB : w0.heap.size ≤ w1b.heap.size := Nat.le_trans HF1a.out.chg.size cb1.size
      have HQ1 : Hid (Fi w1b w0.heap.size f F1' d false (bs.take T ++ P) ∧ Chg F1 w1a w1b ∧ ∀ z, F1' z → F1 z ∨ w1a.heap.size ≤ z) := ⟨hf1, cb1, hff1⟩
      clear hf1 hq1 hz1 cb1 hff1 hlp hlt HX1
      go_wp2_with (at_builtin; refine wpList_append_moved rfl _ _ 22 rfl w0.heap.size 5 iu (.int .u8 0) 1 1 Try.underlying22 hiu hu0 hu1 hu2 rfl (by decide) _ T ((nums (De19.cd false d (bs.take T))).map (Value.int .u8)) rfl oa1 K oc1 rfl ((nums (De19.piece false d (bs.take T) P)).map (Value.int .u8)) ?h1_2 ?h2_2 ?h3_2 ?m1_2 ?m2_2 ?m3_2 ?_)
      all_goals try (first | exact hown | exact hsrc | exact hone | exact hB | exact fun _ _ => rfl | (unfold maxLen; have := HTK.out; omega) | (have := HTK.out; omega))
      intro r1 w1c hr1 hg1 hm1
      have hfin := HF1a.out.fin S HQ1.out.1 HQ1.out.2.1 HQ1.out.2.2 hr1 hg1 hm1
      obtain ⟨ra1, rc1, rfl⟩ := form1 hr1
      rw [HP.out.2.2.2] at hfin
      have HJ : Hid (Dc Fi w0 w1c d g true (bs.take T) (.slice va T vc) f false (bs.take (T + K)) (.slice ra1 (T + K) rc1) (.slice xa n xc) (De19.cd false d bs) (.slice ya n yc) (De19.cd true d bs)) := ⟨_, _, hfin.swap⟩
      clear hown hsrc hone hB hr1 hg1 hm1 HQ1 HF1a hfin
      obtain ⟨F2, G2, hF2⟩ := HJ.out
      have HF2 : Hid _ := hF2
      have cE := chg_one w1c (.cells #[] 5)
      have hoE := own_empty w1c 5
      have hsrc := (Bk.row8_chg (row8_part (Bk.row8_chg HR.out.1 (chg_then hF2.chg cE)) HR.out.2.2 T K HTK.out) (Chg.refl _ _)).src
      rw [HP.out.1, HCA.out] at hsrc
      have hone := oneB P
      have hB : w1c.heap.size ≤ (w1c.alloc (.cells #[] 5)).heap.size := cE.size
      have HCE : Hid (Chg (fun _ => False) w1c (w1c.alloc (.cells #[] 5))) := cE
      clear cE hF2 HJ
      go_wp2_with (at_builtin; refine wpList_append_moved rfl _ _ 22 rfl w1c.heap.size 5 iu (.int .u8 0) 1 1 Try.underlying22 hiu hu0 hu1 hu2 rfl (by decide) _ 0 [] rfl CA K (c - T) rfl ((nums P).map (Value.int .u8)) ?h1_3 ?h2_3 ?h3_3 ?m1_3 ?m2_3 ?m3_3 ?_)
      all_goals try (first | exact hoE | exact hsrc | exact hone | exact hB | exact fun _ _ => rfl | (unfold maxLen; have := HTK.out; omega) | (have := HTK.out; omega))
      intro v2 w2a ho2 hg2 hm2
      have c2 : Chg (fun _ => False) w1c w2a := HCE.out.grown hg2 (fun j e => .inr (by simp [Value.ownBlock] at e; omega))
      try simp only [List.nil_append, Nat.zero_add] at ho2
      obtain ⟨p2, q2, rfl⟩ := form1 ho2
      have HF2a : Hid _ := HF2.out.new S c2
      have HX2 : Hid _ := S.next w0.heap.size g d F2 true (bs.take T) p2 K q2 P w2a HF2a.out.fi HF2a.out.chg.size (row8_own (xs := nums P) ho2) (off_own ho2 (fun z f => (S.lt HF2.out.fi z f).2)) HP.out.2.2.1 (own_cap ho2) (by omega)
      clear hoE hsrc hone hB HCE ho2 hg2 hm2 c2 HF2
      go_wp2_with fail
      refine Calls.mono HX2.out ?_
      rintro zz w2b ⟨o2, F2', rfl, hf2, hq2, hz2, cb2, hff2⟩
      obtain ⟨oa2, oc2, rfl⟩ := byO_form hq2
      have hlp : (De19.piece true d (bs.take T) P).length = K := by rw [De19.piece_len]; exact HP.out.2.1
      rw [hlp]
      rw [hlp] at hq2 hz2
      have hlt : (De19.cd true d (bs.take T)).length = T := by rw [De19.cd_len, List.length_take, HBL.out]; have := HTN.out; omega
      have hown : w2b.ownsRow w0.heap.size 5 1 (.slice va T vc) T ((nums (De19.cd true d (bs.take T))).map (Value.int .u8)) := by
        have h9 := HF2a.out.ou
        unfold ByO at h9
        rw [hlt] at h9
        exact ownsRow_keep h9 cb2 (fun j e => (HF2a.out.nu j e).1)
      have hsrc := (byO_row' hq2).src
      have hone := oneB (De19.piece true d (bs.take T) P)
      have hB : w0.heap.size ≤ w2b.heap.size := Nat.le_trans HF2a.out.chg.size cb2.size
      have HQ2 : Hid (Fi w2b w0.heap.size g F2' d true (bs.take T ++ P) ∧ Chg F2 w2a w2b ∧ ∀ z, F2' z → F2 z ∨ w2a.heap.size ≤ z) := ⟨hf2, cb2, hff2⟩
      clear hf2 hq2 hz2 cb2 hff2 hlp hlt HX2
      go_wp2_with (at_builtin; refine wpList_append_moved rfl _ _ 22 rfl w0.heap.size 5 iu (.int .u8 0) 1 1 Try.underlying22 hiu hu0 hu1 hu2 rfl (by decide) _ T ((nums (De19.cd true d (bs.take T))).map (Value.int .u8)) rfl oa2 K oc2 rfl ((nums (De19.piece true d (bs.take T) P)).map (Value.int .u8)) ?h1_4 ?h2_4 ?h3_4 ?m1_4 ?m2_4 ?m3_4 ?_)
      all_goals try (first | exact hown | exact hsrc | exact hone | exact hB | exact fun _ _ => rfl | (unfold maxLen; have := HTK.out; omega) | (have := HTK.out; omega))
      intro r2 w2c hr2 hg2 hm2
      have hfin := HF2a.out.fin S HQ2.out.1 HQ2.out.2.1 HQ2.out.2.2 hr2 hg2 hm2
      obtain ⟨ra2, rc2, rfl⟩ := form1 hr2
      rw [HP.out.2.2.2] at hfin
      have HJ : Hid (Dc Fi w0 w2c d f false (bs.take (T + K)) (.slice ra1 (T + K) rc1) g true (bs.take (T + K)) (.slice ra2 (T + K) rc2) (.slice xa n xc) (De19.cd false d bs) (.slice ya n yc) (De19.cd true d bs)) := ⟨_, _, hfin.swap⟩
      clear hown hsrc hone hB hr2 hg2 hm2 HQ2 HF2a hfin
      have hall : bs.take (T + K) = bs := by rw [HKN.out, ← HBL.out, List.take_length]
      obtain ⟨F9, G9, h9⟩ := HJ.out
      have ou := h9.ou
      have ov := h9.ov
      have ox := h9.ox
      have oy := h9.oy
      rw [hall] at ou ov
      have k1 := conv_by (byO_row' ou)
      have k2 := conv_by (byO_row' ov)
      have k3 := conv_by (byO_row' ox)
      have k4 := conv_by (byO_row' oy)
      generalize strOfNums (nums (De19.cd false d bs)) = SA at *
      generalize strOfNums (nums (De19.cd true d bs)) = SB at *
      have hsa : (SA.toList == SA.toList) = true := by simp
      have hsb : (SB.toList == SB.toList) = true := by simp
      have HC9 : Hid (Chg (fun _ => False) w0 w2c) := h9.chg
      clear h9 ou ov ox oy hall HJ
      go_wp2
      go_ret
      exact ⟨rfl, HC9.out⟩
    · have d0 : decide (i < mc) = true := decide_eq_true hin
      obtain ⟨x, hx⟩ : ∃ x, cl[i]? = some x := ⟨_, List.getElem?_eq_getElem (by rw [HCL.out.1]; exact hin)⟩
      have hxI := HCL.out.2.1 x (List.mem_of_getElem? hx)
      have hx1 := hxI.1
      have hx2 := hxI.2
      obtain ⟨kb, koff, rfl, hkc⟩ : ∃ b off, ca = some ⟨b, off, none⟩ ∧ wr.cell? ⟨b, off + i, none⟩ = some (.int .i64 x) := by
        obtain ⟨F9, G9, h9⟩ := HJ.out
        exact HCL.out.2.2.new h9.chg i x hx
      clear hx hxI
      by_cases hx0 : x < 0
      · have d1 : decide (x < 0) = true := decide_eq_true hx0
        obtain ⟨K, hK, hK9⟩ := cut_rem (x := -(x + 1)) (k := n - T + 1) (by omega) (by omega)
        have t1 : (-(x + 1)).tmod ((n : Int) - (T : Int) + 1) = (K : Int) := by rw [← hK]; congr 1; omega
        have hTK : T + K ≤ n := by omega
        clear hK hK9
        go_upto_region 16 with fail
        have HTK : Hid (T + K ≤ n) := hTK
        have hKi : (K : Int) ≤ 140737488351232 := by omega
        have hTKi : (T : Int) + (K : Int) ≤ 140737488351232 := by omega
        obtain ⟨P, hP⟩ : ∃ P, (bs.drop T).take K = P := ⟨_, rfl⟩
        obtain ⟨CA, hCA⟩ : ∃ CA, cutZ ad c T 1 = CA := ⟨_, rfl⟩
        have HP : Hid ((bs.drop T).take K = P ∧ P.length = K ∧ Rc.Dig P ∧ bs.take T ++ P = bs.take (T + K)) := ⟨hP, by rw [← hP, List.length_take, List.length_drop, HBL.out]; omega, by rw [← hP]; exact fun z hz => HR.out.2.1 z (List.mem_of_mem_drop (List.mem_of_mem_take hz)), by rw [← hP, List.take_add]⟩
        have HCA : Hid (cutZ ad c T 1 = CA) := hCA
        have hcut : ∀ ww, (Instr.sliceAt 22 (.slice ad n c) (some (.int .i64 (T : Int))) (some (.int .i64 ((T : Int) + (K : Int)))) none).run Try.prog ww = .ok (.slice CA K (c - T)) ww := fun ww => by
          rw [← hCA]
          exact run_cutZ_lh ad n c T K ww (by have := HR.out.2.2; omega)
        clear hP hCA hTK
        obtain ⟨F1, G1, hF1⟩ := HJ.out
        have HF1 : Hid _ := hF1
        have cE := chg_one wr (.cells #[] 5)
        have hoE := own_empty wr 5
        have hsrc := (Bk.row8_chg (row8_part (Bk.row8_chg HR.out.1 (chg_then hF1.chg cE)) HR.out.2.2 T K HTK.out) (Chg.refl _ _)).src
        rw [HP.out.1, HCA.out] at hsrc
        have hone := oneB P
        have hB : wr.heap.size ≤ (wr.alloc (.cells #[] 5)).heap.size := cE.size
        have HCE : Hid (Chg (fun _ => False) wr (wr.alloc (.cells #[] 5))) := cE
        clear cE hF1 HJ
        go_wp2_with (at_builtin; refine wpList_append_moved rfl _ _ 22 rfl wr.heap.size 5 iu (.int .u8 0) 1 1 Try.underlying22 hiu hu0 hu1 hu2 rfl (by decide) _ 0 [] rfl CA K (c - T) rfl ((nums P).map (Value.int .u8)) ?h1_5 ?h2_5 ?h3_5 ?m1_5 ?m2_5 ?m3_5 ?_)
        all_goals try (first | exact hoE | exact hsrc | exact hone | exact hB | exact fun _ _ => rfl | (unfold maxLen; have := HTK.out; omega) | (have := HTK.out; omega))
        intro v1 w1a ho1 hg1 hm1
        have c1 : Chg (fun _ => False) wr w1a := HCE.out.grown hg1 (fun j e => .inr (by simp [Value.ownBlock] at e; omega))
        try simp only [List.nil_append, Nat.zero_add] at ho1
        obtain ⟨p1, q1, rfl⟩ := form1 ho1
        have HF1a : Hid _ := HF1.out.new S c1
        have HX1 : Hid _ := S.next w0.heap.size f d F1 false (bs.take T) p1 K q1 P w1a HF1a.out.fi HF1a.out.chg.size (row8_own (xs := nums P) ho1) (off_own ho1 (fun z f => (S.lt HF1.out.fi z f).2)) HP.out.2.2.1 (own_cap ho1) (by omega)
        clear hoE hsrc hone hB HCE ho1 hg1 hm1 c1 HF1
        go_wp2_with fail
        refine Calls.mono HX1.out ?_
        rintro zz w1b ⟨o1, F1', rfl, hf1, hq1, hz1, cb1, hff1⟩
        obtain ⟨oa1, oc1, rfl⟩ := byO_form hq1
        have hlp : (De19.piece false d (bs.take T) P).length = K := by rw [De19.piece_len]; exact HP.out.2.1
        rw [hlp]
        rw [hlp] at hq1 hz1
        have hlt : (De19.cd false d (bs.take T)).length = T := by rw [De19.cd_len, List.length_take, HBL.out]; have := HTN.out; omega
        have hown : w1b.ownsRow w0.heap.size 5 1 (.slice ua T uc) T ((nums (De19.cd false d (bs.take T))).map (Value.int .u8)) := by
          have h9 := HF1a.out.ou
          unfold ByO at h9
          rw [hlt] at h9
          exact ownsRow_keep h9 cb1 (fun j e => (HF1a.out.nu j e).1)
        have hsrc := (byO_row' hq1).src
        have hone := oneB (De19.piece false d (bs.take T) P)
        have hB : w0.heap.size ≤ w1b.heap.size := Nat.le_trans HF1a.out.chg.size cb1.size
        have HQ1 : Hid (Fi w1b w0.heap.size f F1' d false (bs.take T ++ P) ∧ Chg F1 w1a w1b ∧ ∀ z, F1' z → F1 z ∨ w1a.heap.size ≤ z) := ⟨hf1, cb1, hff1⟩
        clear hf1 hq1 hz1 cb1 hff1 hlp hlt HX1
        go_wp2_with (at_builtin; refine wpList_append_moved rfl _ _ 22 rfl w0.heap.size 5 iu (.int .u8 0) 1 1 Try.underlying22 hiu hu0 hu1 hu2 rfl (by decide) _ T ((nums (De19.cd false d (bs.take T))).map (Value.int .u8)) rfl oa1 K oc1 rfl ((nums (De19.piece false d (bs.take T) P)).map (Value.int .u8)) ?h1_6 ?h2_6 ?h3_6 ?m1_6 ?m2_6 ?m3_6 ?_)
        all_goals try (first | exact hown | exact hsrc | exact hone | exact hB | exact fun _ _ => rfl | (unfold maxLen; have := HTK.out; omega) | (have := HTK.out; omega))
        intro r1 w1c hr1 hg1 hm1
        have hfin := HF1a.out.fin S HQ1.out.1 HQ1.out.2.1 HQ1.out.2.2 hr1 hg1 hm1
        obtain ⟨ra1, rc1, rfl⟩ := form1 hr1
        rw [HP.out.2.2.2] at hfin
        have HJ : Hid (Dc Fi w0 w1c d g true (bs.take T) (.slice va T vc) f false (bs.take (T + K)) (.slice ra1 (T + K) rc1) (.slice xa n xc) (De19.cd false d bs) (.slice ya n yc) (De19.cd true d bs)) := ⟨_, _, hfin.swap⟩
        clear hown hsrc hone hB hr1 hg1 hm1 HQ1 HF1a hfin
        obtain ⟨F2, G2, hF2⟩ := HJ.out
        have HF2 : Hid _ := hF2
        have cE := chg_one w1c (.cells #[] 5)
        have hoE := own_empty w1c 5
        have hsrc := (Bk.row8_chg (row8_part (Bk.row8_chg HR.out.1 (chg_then hF2.chg cE)) HR.out.2.2 T K HTK.out) (Chg.refl _ _)).src
        rw [HP.out.1, HCA.out] at hsrc
        have hone := oneB P
        have hB : w1c.heap.size ≤ (w1c.alloc (.cells #[] 5)).heap.size := cE.size
        have HCE : Hid (Chg (fun _ => False) w1c (w1c.alloc (.cells #[] 5))) := cE
        clear cE hF2 HJ
        go_wp2_with (at_builtin; refine wpList_append_moved rfl _ _ 22 rfl w1c.heap.size 5 iu (.int .u8 0) 1 1 Try.underlying22 hiu hu0 hu1 hu2 rfl (by decide) _ 0 [] rfl CA K (c - T) rfl ((nums P).map (Value.int .u8)) ?h1_7 ?h2_7 ?h3_7 ?m1_7 ?m2_7 ?m3_7 ?_)
        all_goals try (first | exact hoE | exact hsrc | exact hone | exact hB | exact fun _ _ => rfl | (unfold maxLen; have := HTK.out; omega) | (have := HTK.out; omega))
        intro v2 w2a ho2 hg2 hm2
        have c2 : Chg (fun _ => False) w1c w2a := HCE.out.grown hg2 (fun j e => .inr (by simp [Value.ownBlock] at e; omega))
        try simp only [List.nil_append, Nat.zero_add] at ho2
        obtain ⟨p2, q2, rfl⟩ := form1 ho2
        have HF2a : Hid _ := HF2.out.new S c2
        have HX2 : Hid _ := S.next w0.heap.size g d F2 true (bs.take T) p2 K q2 P w2a HF2a.out.fi HF2a.out.chg.size (row8_own (xs := nums P) ho2) (off_own ho2 (fun z f => (S.lt HF2.out.fi z f).2)) HP.out.2.2.1 (own_cap ho2) (by omega)
        clear hoE hsrc hone hB HCE ho2 hg2 hm2 c2 HF2
        go_wp2_with fail
        refine Calls.mono HX2.out ?_
        rintro zz w2b ⟨o2, F2', rfl, hf2, hq2, hz2, cb2, hff2⟩
        obtain ⟨oa2, oc2, rfl⟩ := byO_form hq2
        have hlp : (De19.piece true d (bs.take T) P).length = K := by rw [De19.piece_len]; exact HP.out.2.1
        rw [hlp]
        rw [hlp] at hq2 hz2
        have hlt : (De19.cd true d (bs.take T)).length = T := by rw [De19.cd_len, List.length_take, HBL.out]; have := HTN.out; omega
        have hown : w2b.ownsRow w0.heap.size 5 1 (.slice va T vc) T ((nums (De19.cd true d (bs.take T))).map (Value.int .u8)) := by
          have h9 := HF2a.out.ou
          unfold ByO at h9
          rw [hlt] at h9
          exact ownsRow_keep h9 cb2 (fun j e => (HF2a.out.nu j e).1)
        have hsrc := (byO_row' hq2).src
        have hone := oneB (De19.piece true d (bs.take T) P)
        have hB : w0.heap.size ≤ w2b.heap.size := Nat.le_trans HF2a.out.chg.size cb2.size
        have HQ2 : Hid (Fi w2b w0.heap.size g F2' d true (bs.take T ++ P) ∧ Chg F2 w2a w2b ∧ ∀ z, F2' z → F2 z ∨ w2a.heap.size ≤ z) := ⟨hf2, cb2, hff2⟩
        clear hf2 hq2 hz2 cb2 hff2 hlp hlt HX2
        go_wp2_with (at_builtin; refine wpList_append_moved rfl _ _ 22 rfl w0.heap.size 5 iu (.int .u8 0) 1 1 Try.underlying22 hiu hu0 hu1 hu2 rfl (by decide) _ T ((nums (De19.cd true d (bs.take T))).map (Value.int .u8)) rfl oa2 K oc2 rfl ((nums (De19.piece true d (bs.take T) P)).map (Value.int .u8)) ?h1_8 ?h2_8 ?h3_8 ?m1_8 ?m2_8 ?m3_8 ?_)
        all_goals try (first | exact hown | exact hsrc | exact hone | exact hB | exact fun _ _ => rfl | (unfold maxLen; have := HTK.out; omega) | (have := HTK.out; omega))
        intro r2 w2c hr2 hg2 hm2
        have hfin := HF2a.out.fin S HQ2.out.1 HQ2.out.2.1 HQ2.out.2.2 hr2 hg2 hm2
        obtain ⟨ra2, rc2, rfl⟩ := form1 hr2
        rw [HP.out.2.2.2] at hfin
        have HJ : Hid (Dc Fi w0 w2c d f false (bs.take (T + K)) (.slice ra1 (T + K) rc1) g true (bs.take (T + K)) (.slice ra2 (T + K) rc2) (.slice xa n xc) (De19.cd false d bs) (.slice ya n yc) (De19.cd true d bs)) := ⟨_, _, hfin.swap⟩
        clear hown hsrc hone hB hr2 hg2 hm2 HQ2 HF2a hfin
        go_wp2_with fail
        exact ⟨⟨i + 1, T + K, rc1, rc2, ra1, ra2, by omega, HTK.out, rfl, rfl, by go_num, by go_num, HJ.out⟩, by simp [intOf]; omega⟩
      · have d1 : decide (x < 0) = false := decide_eq_false hx0
        obtain ⟨K, hK, hK9⟩ := cut_rem (x := x) (k := n - T + 1) (by omega) (by omega)
        have t1 : x.tmod ((n : Int) - (T : Int) + 1) = (K : Int) := by rw [← hK]; congr 1; omega
        have t2 : x % ((n : Int) - (T : Int) + 1) = (K : Int) := by rw [← t1]; exact (Int.tmod_eq_emod_of_nonneg (by omega)).symm
        have hx3 : 0 ≤ x := by omega
        have hTK : T + K ≤ n := by omega
        clear hK hK9
        go_upto_region 16 with fail
        have HTK : Hid (T + K ≤ n) := hTK
        have hKi : (K : Int) ≤ 140737488351232 := by omega
        have hTKi : (T : Int) + (K : Int) ≤ 140737488351232 := by omega
        obtain ⟨P, hP⟩ : ∃ P, (bs.drop T).take K = P := ⟨_, rfl⟩
        obtain ⟨CA, hCA⟩ : ∃ CA, cutZ ad c T 1 = CA := ⟨_, rfl⟩
        have HP : Hid ((bs.drop T).take K = P ∧ P.length = K ∧ Rc.Dig P ∧ bs.take T ++ P = bs.take (T + K)) := ⟨hP, by rw [← hP, List.length_take, List.length_drop, HBL.out]; omega, by rw [← hP]; exact fun z hz => HR.out.2.1 z (List.mem_of_mem_drop (List.mem_of_mem_take hz)), by rw [← hP, List.take_add]⟩
        have HCA : Hid (cutZ ad c T 1 = CA) := hCA
        have hcut : ∀ ww, (Instr.sliceAt 22 (.slice ad n c) (some (.int .i64 (T : Int))) (some (.int .i64 ((T : Int) + (K : Int)))) none).run Try.prog ww = .ok (.slice CA K (c - T)) ww := fun ww => by
          rw [← hCA]
          exact run_cutZ_lh ad n c T K ww (by have := HR.out.2.2; omega)
        clear hP hCA hTK
        obtain ⟨F1, G1, hF1⟩ := HJ.out
        have HF1 : Hid _ := hF1
        have cE := chg_one wr (.cells #[] 5)
        have hoE := own_empty wr 5
        have hsrc := (Bk.row8_chg (row8_part (Bk.row8_chg HR.out.1 (chg_then hF1.chg cE)) HR.out.2.2 T K HTK.out) (Chg.refl _ _)).src
        rw [HP.out.1, HCA.out] at hsrc
        have hone := oneB P
        have hB : wr.heap.size ≤ (wr.alloc (.cells #[] 5)).heap.size := cE.size
        have HCE : Hid (Chg (fun _ => False) wr (wr.alloc (.cells #[] 5))) := cE
        clear cE hF1 HJ
        go_wp2_with (at_builtin; refine wpList_append_moved rfl _ _ 22 rfl wr.heap.size 5 iu (.int .u8 0) 1 1 Try.underlying22 hiu hu0 hu1 hu2 rfl (by decide) _ 0 [] rfl CA K (c - T) rfl ((nums P).map (Value.int .u8)) ?h1_9 ?h2_9 ?h3_9 ?m1_9 ?m2_9 ?m3_9 ?_)
        all_goals try (first | exact hoE | exact hsrc | exact hone | exact hB | exact fun _ _ => rfl | (unfold maxLen; have := HTK.out; omega) | (have := HTK.out; omega))
        intro v1 w1a ho1 hg1 hm1
        have c1 : Chg (fun _ => False) wr w1a := HCE.out.grown hg1 (fun j e => .inr (by simp [Value.ownBlock] at e; omega))
        try simp only [List.nil_append, Nat.zero_add] at ho1
        obtain ⟨p1, q1, rfl⟩ := form1 ho1
        have HF1a : Hid _ := HF1.out.new S c1
        have HX1 : Hid _ := S.next w0.heap.size f d F1 false (bs.take T) p1 K q1 P w1a HF1a.out.fi HF1a.out.chg.size (row8_own (xs := nums P) ho1) (off_own ho1 (fun z f => (S.lt HF1.out.fi z f).2)) HP.out.2.2.1 (own_cap ho1) (by omega)
        clear hoE hsrc hone hB HCE ho1 hg1 hm1 c1 HF1
        go_wp2_with fail
        refine Calls.mono HX1.out ?_
        rintro zz w1b ⟨o1, F1', rfl, hf1, hq1, hz1, cb1, hff1⟩
        obtain ⟨oa1, oc1, rfl⟩ := byO_form hq1
        have hlp : (De19.piece false d (bs.take T) P).length = K := by rw [De19.piece_len]; exact HP.out.2.1
        rw [hlp]
        rw [hlp] at hq1 hz1
        have hlt : (De19.cd false d (bs.take T)).length = T := by rw [De19.cd_len, List.length_take, HBL.out]; have := HTN.out; omega
        have hown : w1b.ownsRow w0.heap.size 5 1 (.slice ua T uc) T ((nums (De19.cd false d (bs.take T))).map (Value.int .u8)) := by
          have h9 := HF1a.out.ou
          unfold ByO at h9
          rw [hlt] at h9
          exact ownsRow_keep h9 cb1 (fun j e => (HF1a.out.nu j e).1)
        have hsrc := (byO_row' hq1).src
        have hone := oneB (De19.piece false d (bs.take T) P)
        have hB : w0.heap.size ≤ w1b.heap.size := Nat.le_trans HF1a.out.chg.size cb1.size
        have HQ1 : Hid (Fi w1b w0.heap.size f F1' d false (bs.take T ++ P) ∧ Chg F1 w1a w1b ∧ ∀ z, F1' z → F1 z ∨ w1a.heap.size ≤ z) := ⟨hf1, cb1, hff1⟩
        clear hf1 hq1 hz1 cb1 hff1 hlp hlt HX1
        go_wp2_with (at_builtin; refine wpList_append_moved rfl _ _ 22 rfl w0.heap.size 5 iu (.int .u8 0) 1 1 Try.underlying22 hiu hu0 hu1 hu2 rfl (by decide) _ T ((nums (De19.cd false d (bs.take T))).map (Value.int .u8)) rfl oa1 K oc1 rfl ((nums (De19.piece false d (bs.take T) P)).map (Value.int .u8)) ?h1_10 ?h2_10 ?h3_10 ?m1_10 ?m2_10 ?m3_10 ?_)
        all_goals try (first | exact hown | exact hsrc | exact hone | exact hB | exact fun _ _ => rfl | (unfold maxLen; have := HTK.out; omega) | (have := HTK.out; omega))
        intro r1 w1c hr1 hg1 hm1
        have hfin := HF1a.out.fin S HQ1.out.1 HQ1.out.2.1 HQ1.out.2.2 hr1 hg1 hm1
        obtain ⟨ra1, rc1, rfl⟩ := form1 hr1
        rw [HP.out.2.2.2] at hfin
        have HJ : Hid (Dc Fi w0 w1c d g true (bs.take T) (.slice va T vc) f false (bs.take (T + K)) (.slice ra1 (T + K) rc1) (.slice xa n xc) (De19.cd false d bs) (.slice ya n yc) (De19.cd true d bs)) := ⟨_, _, hfin.swap⟩
        clear hown hsrc hone hB hr1 hg1 hm1 HQ1 HF1a hfin
        obtain ⟨F2, G2, hF2⟩ := HJ.out
        have HF2 : Hid _ := hF2
        have cE := chg_one w1c (.cells #[] 5)
        have hoE := own_empty w1c 5
        have hsrc := (Bk.row8_chg (row8_part (Bk.row8_chg HR.out.1 (chg_then hF2.chg cE)) HR.out.2.2 T K HTK.out) (Chg.refl _ _)).src
        rw [HP.out.1, HCA.out] at hsrc
        have hone := oneB P
        have hB : w1c.heap.size ≤ (w1c.alloc (.cells #[] 5)).heap.size := cE.size
        have HCE : Hid (Chg (fun _ => False) w1c (w1c.alloc (.cells #[] 5))) := cE
        clear cE hF2 HJ
        go_wp2_with (at_builtin; refine wpList_append_moved rfl _ _ 22 rfl w1c.heap.size 5 iu (.int .u8 0) 1 1 Try.underlying22 hiu hu0 hu1 hu2 rfl (by decide) _ 0 [] rfl CA K (c - T) rfl ((nums P).map (Value.int .u8)) ?h1_11 ?h2_11 ?h3_11 ?m1_11 ?m2_11 ?m3_11 ?_)
        all_goals try (first | exact hoE | exact hsrc | exact hone | exact hB | exact fun _ _ => rfl | (unfold maxLen; have := HTK.out; omega) | (have := HTK.out; omega))
        intro v2 w2a ho2 hg2 hm2
        have c2 : Chg (fun _ => False) w1c w2a := HCE.out.grown hg2 (fun j e => .inr (by simp [Value.ownBlock] at e; omega))
        try simp only [List.nil_append, Nat.zero_add] at ho2
        obtain ⟨p2, q2, rfl⟩ := form1 ho2
        have HF2a : Hid _ := HF2.out.new S c2
        have HX2 : Hid _ := S.next w0.heap.size g d F2 true (bs.take T) p2 K q2 P w2a HF2a.out.fi HF2a.out.chg.size (row8_own (xs := nums P) ho2) (off_own ho2 (fun z f => (S.lt HF2.out.fi z f).2)) HP.out.2.2.1 (own_cap ho2) (by omega)
        clear hoE hsrc hone hB HCE ho2 hg2 hm2 c2 HF2
        go_wp2_with fail
        refine Calls.mono HX2.out ?_
        rintro zz w2b ⟨o2, F2', rfl, hf2, hq2, hz2, cb2, hff2⟩
        obtain ⟨oa2, oc2, rfl⟩ := byO_form hq2
        have hlp : (De19.piece true d (bs.take T) P).length = K := by rw [De19.piece_len]; exact HP.out.2.1
        rw [hlp]
        rw [hlp] at hq2 hz2
        have hlt : (De19.cd true d (bs.take T)).length = T := by rw [De19.cd_len, List.length_take, HBL.out]; have := HTN.out; omega
        have hown : w2b.ownsRow w0.heap.size 5 1 (.slice va T vc) T ((nums (De19.cd true d (bs.take T))).map (Value.int .u8)) := by
          have h9 := HF2a.out.ou
          unfold ByO at h9
          rw [hlt] at h9
          exact ownsRow_keep h9 cb2 (fun j e => (HF2a.out.nu j e).1)
        have hsrc := (byO_row' hq2).src
        have hone := oneB (De19.piece true d (bs.take T) P)
        have hB : w0.heap.size ≤ w2b.heap.size := Nat.le_trans HF2a.out.chg.size cb2.size
        have HQ2 : Hid (Fi w2b w0.heap.size g F2' d true (bs.take T ++ P) ∧ Chg F2 w2a w2b ∧ ∀ z, F2' z → F2 z ∨ w2a.heap.size ≤ z) := ⟨hf2, cb2, hff2⟩
        clear hf2 hq2 hz2 cb2 hff2 hlp hlt HX2
        go_wp2_with (at_builtin; refine wpList_append_moved rfl _ _ 22 rfl w0.heap.size 5 iu (.int .u8 0) 1 1 Try.underlying22 hiu hu0 hu1 hu2 rfl (by decide) _ T ((nums (De19.cd true d (bs.take T))).map (Value.int .u8)) rfl oa2 K oc2 rfl ((nums (De19.piece true d (bs.take T) P)).map (Value.int .u8)) ?h1_12 ?h2_12 ?h3_12 ?m1_12 ?m2_12 ?m3_12 ?_)
        all_goals try (first | exact hown | exact hsrc | exact hone | exact hB | exact fun _ _ => rfl | (unfold maxLen; have := HTK.out; omega) | (have := HTK.out; omega))
        intro r2 w2c hr2 hg2 hm2
        have hfin := HF2a.out.fin S HQ2.out.1 HQ2.out.2.1 HQ2.out.2.2 hr2 hg2 hm2
        obtain ⟨ra2, rc2, rfl⟩ := form1 hr2
        rw [HP.out.2.2.2] at hfin
        have HJ : Hid (Dc Fi w0 w2c d f false (bs.take (T + K)) (.slice ra1 (T + K) rc1) g true (bs.take (T + K)) (.slice ra2 (T + K) rc2) (.slice xa n xc) (De19.cd false d bs) (.slice ya n yc) (De19.cd true d bs)) := ⟨_, _, hfin.swap⟩
        clear hown hsrc hone hB hr2 hg2 hm2 HQ2 HF2a hfin
        go_wp2_with fail
        exact ⟨⟨i + 1, T + K, rc1, rc2, ra1, ra2, by omega, HTK.out, rfl, rfl, by go_num, by go_num, HJ.out⟩, by simp [intOf]; omega⟩
end Go.Proofs.Ytefplppgkoanbaa
