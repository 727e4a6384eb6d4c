/- The walk of IndexExact; of no statement by itself. -/
import Derived.Test.YtehfcfpbjenmjaaDoorIxk
import Derived.Test.YtehfcfpbjenmjaaDoorIxq
namespace Go.Proofs.YtehfcfpbjenmjaaDoor
open Go.RowKit
set_option linter.unusedVariables false
set_option linter.unusedSimpArgs false
def endP : Plc := ⟨-3, ⟨0, 0⟩, 0⟩
theorem PlF.front {w : World} {ad : Option Addr} {n c m : Nat} {l k : List Plc} (h : PlF w ad n c (l ++ k)) (hm : l.length = m) : PlF w ad m c l := by
  have h1 := h.len
  have h2 := h.cap
  rw [List.length_append] at h1
  have hn : ∀ i, i < l.length → (l ++ k)[i]? = l[i]? := fun i hi => List.getElem?_append_left hi
  refine ⟨⟨by rw [pls_len, hm], ?_⟩, hm, by omega, fun i q e => h.rng i q (by rw [hn i (List.getElem?_eq_some_iff.1 e).1]; exact e)⟩
  rcases h.src.2 with ⟨e0, e1, e2⟩ | ⟨x, e, hx⟩
  · exact .inl ⟨e0, by omega, e2⟩
  · exact .inr ⟨x, e, fun j u hu => hx j u (by rw [pls_app, List.getElem?_append_left (List.getElem?_eq_some_iff.1 hu).1]; exact hu)⟩
theorem infoI : (Tryd.prog.info? 3).map (fun i => (i.zero, i.size, i.bytes)) = some (some (.int .i64 0), 1, 8) := by kernel_rfl
theorem own_int1 (w : World) (x : Int) : (w.alloc (.cells #[.int .i64 x] 3)).ownsRow w.heap.size 3 1 (.slice (some ⟨w.heap.size, 0, none⟩) 1 1) 1 (ins .i64 [x]) := by
  have h := World.ownsRow_lit (base := w.heap.size) (e := 3) (size := 1) w #[.int .i64 x] 1 (Nat.le_refl _) (by decide) rfl
  exact h
theorem getI_I {bs : List Nat} (hd : Rc.Dig bs) : ∀ (k : Nat) (q : Rec), (Ix23.getI bs).1[k]? = some q → q.I := fun k q hk => by
  rcases Ix23.getI_err bs with e | ⟨_, e, _⟩
  · exact right_I (Ix23.get_backI hd e).1 k q hk
  · rw [e] at hk
    simp at hk
theorem placesI_I (frm : Int) (l : List Rec) : ∀ (k : Nat) (p : Plc), (Ix23.placesI frm l).1[k]? = some p → p.I := fun k p hk => by
  by_cases h : Ix23.rightB 0 0 l = true ∧ 0 ≤ frm ∧ frm + Ix23.bsum l ≤ 9223372036854775807
  · rw [placesI_yes h.1 h.2.1 h.2.2] at hk
    exact (places_I h.1 h.2.1 h.2.2 k p hk).1
  · rw [placesI_no h] at hk
    simp at hk
theorem placesI_len (frm : Int) (l : List Rec) : (Ix23.placesI frm l).1.length ≤ l.length := by
  by_cases h : Ix23.rightB 0 0 l = true ∧ 0 ≤ frm ∧ frm + Ix23.bsum l ≤ 9223372036854775807
  · rw [placesI_yes h.1 h.2.1 h.2.2]
    simp only
    rw [Ix23.placeL_len]
    exact Nat.le_refl _
  · rw [placesI_no h]
    exact Nat.zero_le _
variable {Tab : World → Prop}
set_option maxHeartbeats 32000000 in
set_option maxRecDepth 100000 in
theorem exact23_any (S : IndexSpec Tab) (ad : Option Addr) (n c : Nat) (l : List Rec) (ba : Option Addr) (bn bc : Nat) (bs : List Nat) (aa : Option Addr) (an ac : Nat) (as_ : List Int) (w0 : World) (hT : Tab w0) (h : RcF w0 ad n c l) (hn : n + 1 ≤ 4398046511104) (hb : Row8 w0 ba bn bc (nums bs)) (hd : Rc.Dig bs) (hbc : bn ≤ bc) (hbn : bn + 1 ≤ 17592186044416) (ha : InF w0 aa an ac as_) (han : an + 1 ≤ 4398046511104) : Calls Tryd.prog 8 #[.slice ad n c, .slice ba bn bc, .slice aa an ac] w0 fun e w' => e = .returned (.bool true) ∧ Chg (fun _ => False) w0 w' := by
  obtain ⟨iu, hiu, hu0, hu1, hu2⟩ := info_parts info5u
  obtain ⟨ii, hii, hi0, hi1, hi2⟩ := info_parts infoI
  obtain ⟨ip, hip, hp0, hp1, hp2⟩ := info_parts infoPl
  have HT : Hid (Tab w0) := hT
  have HK : Hid (∀ ww, Chg (fun _ => False) w0 ww → Calls Tryd.prog 11 #[] ww fun e w' => e = .returned (.bool true) ∧ Chg (fun _ => False) ww w') := fun ww hc => known23_any S ww (S.keep HT.out hc)
  have HL0 : Hid (RcF w0 ad n c l) := h
  have HA0 : Hid (InF w0 aa an ac as_) := ha
  have HLN : Hid (l.length = n) := h.len
  have HB0 : Hid (Row8 w0 ba bn bc (nums bs)) := hb
  have HD : Hid (Rc.Dig bs) := hd
  have HBL : Hid (bs.length = bn) := by have h9 := hb.1; rw [nums_len] at h9; exact h9
  have HAL : Hid (as_.length = an) := ha.len
  have hni : (n : Int) + 1 ≤ 4398046511104 := by omega
  have hbni : (bn : Int) + 1 ≤ 17592186044416 := by omega
  have hani : (an : Int) + 1 ≤ 4398046511104 := by omega
  have HRM : Hid _ := roomR_any ad n c l w0 h (by omega)
  obtain ⟨P, hPe⟩ : ∃ P, (Ix23.putI l).1 = P := ⟨_, rfl⟩
  obtain ⟨pe, hpe⟩ : ∃ e, (Ix23.putI l).2 = e := ⟨_, rfl⟩
  have hroom := Ix23.putI_room (l := l) (by rw [h.len]; omega)
  rw [hPe] at hroom
  obtain ⟨PL, hPL⟩ : ∃ L, P.length = L := ⟨_, rfl⟩
  have HPL : Hid (P.length = PL) := hPL
  rw [hPL] at hroom
  have hPLi : (PL : Int) ≤ 61572651155500 := by omega
  have HPT : Hid (∀ (a : Option Addr) (c : Nat) (ww : World), Chg (fun _ => False) w0 ww → RcF ww a n c l → Calls Tryd.prog 12 #[.slice a n c] ww fun e w' => ∃ ov, e = .returned (.tuple #[ov, .int .i64 pe]) ∧ ByO w' ww.heap.size ov P ∧ Chg (fun _ => False) ww w') := fun a c ww hc hl => by
    have h9 := S.put a n c l ww (S.keep HT.out hc) hl (by omega)
    rw [hPe, hpe] at h9
    exact h9
  have HPS : Hid (∀ (a : Option Addr) (c : Nat) (ww : World), Chg (fun _ => False) w0 ww → RcF ww a n c l → Calls Tryd.prog 19 #[.slice a n c] ww fun e w' => e = .returned (.tuple #[.int .i64 (PL : Int), .int .i64 pe]) ∧ Chg (fun _ => False) ww w') := fun a c ww hc hl => by
    have h9 := S.size a n c l ww (S.keep HT.out hc) hl (by omega)
    rw [hPe, hpe, hPL] at h9
    exact h9
  have HPR : Hid (∀ (ww : World), Chg (fun _ => False) w0 ww → Calls Tryd.prog 18 #[.slice ad n c] ww fun e w' => ∃ ov, e = .returned (.tuple #[ov, .int .i64 pe]) ∧ ByO w' ww.heap.size ov P ∧ Chg (fun _ => False) ww w') := fun ww hc => by
    have h9 := rput23_any ad n c l ww (HL0.out.new hc) (by omega)
    rw [hPe, hpe] at h9
    exact h9
  clear hT h ha hb hd hPe hpe hPL
  go_enter Tryd.func8, Tryd.ntmps8
  go_wp2_with fail
  refine Calls.mono HRM.out ?_
  rintro z w1 ⟨ra, rc, rfl, hr, c1⟩
  have HC1 : Hid (Chg (fun _ => False) w0 w1) := c1
  have HRK : Hid (RcK w1 w0.heap.size ra n rc l) := ⟨hr, HLN.out, HL0.out.rng⟩
  have hrcap : n + 1 ≤ rc := HRK.out.all.cap
  have hcutR : ∀ ww, (Instr.sliceAt 23 (.slice ra (n + 1) rc) none (some (.int .i64 (n : Int))) none).run Tryd.prog ww = .ok (.slice ra n rc) ww := fun ww => run_cutZ_hi undRc elemRc sizeRc _ (n + 1) rc n ww (by omega)
  have HP1 : Hid _ := HPT.out ra rc w1 HC1.out HRK.out.F
  clear hr c1 HRM
  go_wp2_with fail
  refine Calls.mono HP1.out ?_
  rintro z w2 ⟨ov, rfl, ho2, c2⟩
  obtain ⟨pa, pc, rfl⟩ := byO_form ho2
  rw [HPL.out] at ho2 ⊢
  have HC2 : Hid (Chg (fun _ => False) w0 w2) := chg_then HC1.out c2
  have HC12 : Hid (Chg (fun _ => False) w1 w2) := c2
  have HRP : Hid (Row8 w2 pa PL pc (nums P)) := (byO_row ho2).1
  have HP2 : Hid _ := HPR.out w2 HC2.out
  clear ho2 c2 HP1
  go_wp2_with fail
  refine Calls.mono HP2.out ?_
  rintro z w3 ⟨ov, rfl, ho3, c3⟩
  obtain ⟨qa, qc, rfl⟩ := byO_form ho3
  rw [HPL.out] at ho3 ⊢
  have HC3 : Hid (Chg (fun _ => False) w0 w3) := chg_then HC2.out c3
  have HC13 : Hid (Chg (fun _ => False) w1 w3) := chg_then HC12.out c3
  have HRP3 : Hid (Row8 w3 pa PL pc (nums P)) := Bk.row8_chg HRP.out c3
  have HRQ3 : Hid (Row8 w3 qa PL qc (nums P)) := (byO_row ho3).1
  have HP3 : Hid _ := HPS.out ra rc w3 HC3.out (HRK.out.F.new HC13.out)
  clear ho3 c3 HP2 HC12 HRP HC2
  go_wp2_with fail
  refine Calls.mono HP3.out ?_
  rintro z w4 ⟨rfl, c4⟩
  have HC4 : Hid (Chg (fun _ => False) w0 w4) := chg_then HC3.out c4
  have HC14 : Hid (Chg (fun _ => False) w1 w4) := chg_then HC13.out c4
  have hcv1 : (convert 22 9 (.slice pa PL pc)).run Tryd.prog w4 = .ok (.string (strOfNums (nums P))) w4 := Bk.conv8_here (Bk.row8_chg HRP3.out c4)
  have hcv2 : (convert 22 9 (.slice qa PL qc)).run Tryd.prog w4 = .ok (.string (strOfNums (nums P))) w4 := Bk.conv8_here (Bk.row8_chg HRQ3.out c4)
  generalize strOfNums (nums P) = S1 at *
  have hs1 : (S1.toList == S1.toList) = true := by simp
  have hs1' : (S1.toList != S1.toList) = false := by simp
  have e1 : (pe != pe) = false := by simp
  have e2 : ((PL : Int) != (PL : Int)) = false := by simp
  have HKP : Hid (∀ ww, Chg (fun _ => False) w1 ww → Calls Tryd.prog 20 #[.slice ra (n + 1) rc, .slice ad n c] ww fun e w' => e = .returned (.bool true) ∧ ∃ k, w' = ww.drewN k) := fun ww hc => keptR_any w0.heap.size ra ad n rc c l ww (HRK.out.new hc) (HL0.out.new (chg_then HC1.out hc)) (by omega)
  clear c4 HP3 HRP3 HRQ3 HC3 HC13
  go_wp2_with fail
  refine Calls.mono (num_q _ _) ?_
  rintro z w9 ⟨rfl, rfl⟩
  go_wp2_with fail
  refine Calls.mono (num_q _ _) ?_
  rintro z w9 ⟨rfl, rfl⟩
  go_wp2_with fail
  refine Calls.mono (HKP.out w4 HC14.out) ?_
  rintro z w5 ⟨rfl, k5, rfl⟩
  have HC5 : Hid (Chg (fun _ => False) w0 (w4.drewN k5)) := chg_then HC4.out (chg_drewN w4 k5)
  have HC15 : Hid (Chg (fun _ => False) w1 (w4.drewN k5)) := chg_then HC14.out (chg_drewN w4 k5)
  clear hcv1 hcv2 hs1 hs1' e1 e2 HC4 HC14
  generalize w4.drewN k5 = w5 at *
  have cZ := chg_one w5 (.cells #[] 5)
  have hown := own_empty w5 5
  have hsrc := (Bk.row8_chg HB0.out (chg_then HC5.out cZ)).src
  have hB3 : w5.heap.size ≤ (w5.alloc (.cells #[] 5)).heap.size := cZ.size
  have HCZ : Hid (Chg (fun _ => False) w5 (w5.alloc (.cells #[] 5))) := cZ
  clear cZ
  go_wp2_with (at_builtin; refine wpList_append_moved rfl _ _ 22 rfl w5.heap.size 5 iu (.int .u8 0) 1 1 Tryd.underlying22 hiu hu0 hu1 hu2 rfl (by decide) _ 0 [] rfl ba bn bc rfl ((nums bs).map (Value.int .u8)) ?h1 ?h2 ?h3 ?m1 ?m2 ?m3 ?_)
  case h1 => exact hown
  case h2 => exact hsrc
  case h3 => exact oneB _
  case m1 => unfold maxLen; omega
  case m2 => omega
  case m3 => exact hB3
  intro v6 w6 ho6 hg6 hm6
  have c6 : Chg (fun _ => False) w5 w6 := HCZ.out.grown hg6 (fun j e => .inr (by simp [Value.ownBlock] at e; omega))
  try simp only [List.nil_append, Nat.zero_add] at ho6
  obtain ⟨ja, jc, rfl⟩ := form1 ho6
  have cY := chg_one w6 (.cells #[.int .u8 68] 5)
  have hown7 := ownsRow_keep ho6 cY (fun _ _ f => f)
  have hsrc7 := own_from (byO_lit1 w6 68)
  have hB7 : w5.heap.size ≤ (w6.alloc (.cells #[.int .u8 68] 5)).heap.size := (chg_then c6 cY).size
  have HC7 : Hid (Chg (fun _ => False) w5 (w6.alloc (.cells #[.int .u8 68] 5))) := chg_then c6 cY
  clear ho6 hg6 hm6 hown hsrc hB3 HCZ c6 cY
  go_wp2_with (at_builtin; refine wpList_append_moved rfl _ _ 22 rfl w5.heap.size 5 iu (.int .u8 0) 1 1 Tryd.underlying22 hiu hu0 hu1 hu2 rfl (by decide) _ bn ((nums bs).map (Value.int .u8)) rfl (some ⟨w6.heap.size, 0, none⟩) 1 1 rfl ((nums [68]).map (Value.int .u8)) ?g1 ?g2 ?g3 ?k1 ?k2 ?k3 ?_)
  case g1 => exact hown7
  case g2 => exact hsrc7
  case g3 => exact oneB _
  case k1 => unfold maxLen; omega
  case k2 => omega
  case k3 => exact hB7
  intro v8 w8 ho8 hg8 hm8
  have c8 : Chg (fun _ => False) w5 w8 := HC7.out.grown hg8 (fun j e => .inr ((hown7.lt j e).1))
  have hby := byO_app ho8
  obtain ⟨oa, oc, rfl⟩ := form1 ho8
  obtain ⟨og, rfl, _, hcf⟩ := byO_someI hby (by omega)
  obtain ⟨hrow8, _, hcap8⟩ := byO_row hby
  have HRO8 : Hid (Row8 w8 (some ⟨og, 0, none⟩) bn oc (nums bs)) := by
    have h9 := row8_take hrow8 (i := bn) (by omega)
    rw [← HBL.out, List.take_left, HBL.out] at h9
    exact h9
  have HCE8 : Hid (w8.cell? ⟨og, bn, none⟩ = some (.int .u8 68)) := by
    show _ = _
    have h9 := (hcf bn (by omega)).1
    rw [List.getD_eq_getElem?_getD, List.getElem?_append_right (by rw [HBL.out]; exact Nat.le_refl _), HBL.out] at h9
    simpa using h9
  have HC8 : Hid (Chg (fun _ => False) w0 w8) := chg_then HC5.out c8
  have HC18 : Hid (Chg (fun _ => False) w1 w8) := chg_then HC15.out c8
  have hocap : bn + 1 ≤ oc := hcap8
  have hcutO : ∀ ww, (Instr.sliceAt 22 (.slice (some ⟨og, 0, none⟩) (bn + 1) oc) none (some (.int .i64 (bn : Int))) none).run Tryd.prog ww = .ok (.slice (some ⟨og, 0, none⟩) bn oc) ww := fun ww => run_cutZ_hi undBy elemBy sizeBy _ (bn + 1) oc bn ww (by omega)
  have HG : Hid _ := S.get (some ⟨og, 0, none⟩) bn oc bs w8 (S.keep HT.out HC8.out) HRO8.out HD.out (by omega) (by omega) (.inr (by have := filter_le bs; rw [HBL.out] at this; omega))
  clear ho8 hg8 hm8 hby hcf hrow8 hcap8 c8 hown7 hsrc7 hB7 HC7 HC5 HC15
  go_wp2_with fail
  refine Calls.mono HG.out ?_
  rintro z w9 ⟨lv, rfl, hl9, c9⟩
  obtain ⟨xa, xc, rfl, hxc⟩ := formI hl9
  have HX9 : Hid (RcF w9 xa (Ix23.getI bs).1.length xc (Ix23.getI bs).1) := RcO.F hl9 (getI_I HD.out)
  have HC9 : Hid (Chg (fun _ => False) w0 w9) := chg_then HC8.out c9
  have HC19 : Hid (Chg (fun _ => False) w1 w9) := chg_then HC18.out c9
  have HC89 : Hid (Chg (fun _ => False) w8 w9) := c9
  have HG2 : Hid _ := rget23_any ba bn bc bs w9 (Bk.row8_chg HB0.out HC9.out) HD.out hbc (by omega)
  clear hl9 c9 HG HC8 HC18
  go_wp2_with fail
  refine Calls.mono HG2.out ?_
  rintro z w10 ⟨lv, rfl, hl10, c10⟩
  obtain ⟨ya, yc, rfl, hyc⟩ := formI hl10
  have HY : Hid (∀ ww, Chg (fun _ => False) w10 ww → RcF ww ya (Ix23.getI bs).1.length yc (Ix23.getI bs).1) := fun ww hc => (RcO.F hl10 (getI_I HD.out)).new hc
  have HX : Hid (∀ ww, Chg (fun _ => False) w10 ww → RcF ww xa (Ix23.getI bs).1.length xc (Ix23.getI bs).1) := fun ww hc => HX9.out.new (chg_then c10 hc)
  have HC10 : Hid (Chg (fun _ => False) w0 w10) := chg_then HC9.out c10
  have HC110 : Hid (Chg (fun _ => False) w1 w10) := chg_then HC19.out c10
  have HRO : Hid (Row8 w10 (some ⟨og, 0, none⟩) bn oc (nums bs)) := Bk.row8_chg HRO8.out (chg_then HC89.out c10)
  have HCE : Hid (w10.cell? ⟨og, bn, none⟩ = some (.int .u8 68)) := cell_chg HCE8.out (chg_then HC89.out c10)
  have HRB : Hid (Row8 w10 ba bn bc (nums bs)) := Bk.row8_chg HB0.out HC10.out
  have HLB : Hid ((Ix23.getI bs).1.length ≤ 140737488355328) := by
    show _ ≤ _
    rcases Ix23.getI_err bs with e | ⟨_, e, _⟩
    · have h9 := (Ix23.get_backI HD.out e).2.2.2
      rw [HBL.out] at h9
      omega
    · rw [e]
      exact Nat.zero_le _
  obtain ⟨ST, hST⟩ : ∃ x, strOfNums (nums bs) = x := ⟨_, rfl⟩
  obtain ⟨⟨L, N, er⟩, hgi⟩ : ∃ x, Ix23.getI bs = x := ⟨_, rfl⟩
  rw [hgi] at HX HY HLB ⊢
  simp only at HX HY HLB ⊢
  obtain ⟨LN, hLN⟩ : ∃ x, L.length = x := ⟨_, rfl⟩
  rw [hLN] at HX HY HLB ⊢
  have hss : (ST.toList == ST.toList) = true := by simp
  have hss' : (ST.toList != ST.toList) = false := by simp
  have g1 : ((N : Int) != (N : Int)) = false := by simp
  have g2 : (er != er) = false := by simp
  clear hl10 c10 HG2 hxc hyc HX9 HC9 HC19 HC89 HRO8 HCE8 hgi hLN
  go_upto_region 10 with fail
  refine wp_region_last (mk := fun u => #[_, _, _, _, _, _, _, _, _, _, _, _, _, _, _, _, _, _, _, _, _, _, _, _, _, _, _, _, _, _, _, _, _, _, _, _, _, _, _, _, _, _, _, _, _, _, _, _, _, _, _, _, _, _, _, _, _, _, _, _, _, _, _, _, _, _, _, _, _, _, _, _, _, _, _, _, _, _, _, _, _, _, _, _, _, _, _, _, _, _, _, _, _, _, _, _, _, _, _, _, _, _, _, u 103, u 104, u 105, u 106, u 107, u 108, u 109, u 110, u 111, u 112, u 113, u 114, u 115, u 116, u 117, u 118, u 119, u 120, u 121, u 122, u 123, u 124, u 125, u 126, u 127, u 128, u 129, u 130, u 131, u 132, u 133, u 134, _, _, _, _, _, _, _, _, _, _, _, _, _, _, _, _, _, _, _, _, _, _, _, _, _, _, _, _, _, _, _, _, _, _, _, _, _, _, _, _, _, _, _, _, _, _, _, _, _, _, _, _, _, _, _, _, _, _, _, _, _, _, _, _, _, _, _, _, _, _, _, _, _, _, _, _, _, _, _, _, _, _, _, _, _, _, _, _, _, _, _, _, _, _, _]) (F := fun slot vv ww => (look (((103 : Nat), Fact.val (.slice xa LN xc)) :: ((104 : Nat), Fact.val (.slice ya LN yc)) :: ((105 : Nat), Fact.val (.bool true)) :: ((106 : Nat), Fact.val (.bool false)) :: ((107 : Nat), Fact.val (.bool false)) :: ((108 : Nat), Fact.val (.int .i64 (N : Int))) :: ((109 : Nat), Fact.val (.int .i64 (N : Int))) :: ((110 : Nat), Fact.val (.bool false)) :: ((111 : Nat), Fact.val (.bool false)) :: ((112 : Nat), Fact.val (.bool false)) :: ((113 : Nat), Fact.val (.int .i64 er)) :: ((114 : Nat), Fact.val (.int .i64 er)) :: ((115 : Nat), Fact.val (.int .i64 er)) :: ((116 : Nat), Fact.val (.bool false)) :: ((117 : Nat), Fact.val (.bool false)) :: ((118 : Nat), Fact.val (.bool false)) :: ((119 : Nat), Fact.val (.slice (some ⟨og, 0, none⟩) (bn + 1) oc)) :: ((120 : Nat), Fact.val (.slice ba bn bc)) :: ((121 : Nat), Fact.val (.int .i64 (bn : Int))) :: ((122 : Nat), Fact.val (.slice (some ⟨og, 0, none⟩) bn oc)) :: ((123 : Nat), Fact.val (.string ST)) :: ((124 : Nat), Fact.val (.slice ba bn bc)) :: ((125 : Nat), Fact.val (.string ST)) :: ((126 : Nat), Fact.val (.bool false)) :: ((127 : Nat), Fact.val (.bool false)) :: ((128 : Nat), Fact.val (.bool false)) :: ((129 : Nat), Fact.val (.slice (some ⟨og, 0, none⟩) (bn + 1) oc)) :: ((130 : Nat), Fact.val (.slice ba bn bc)) :: ((131 : Nat), Fact.val (.int .i64 (bn : Int))) :: ((132 : Nat), Fact.val (.pointer (some ⟨og, bn, none⟩))) :: ((133 : Nat), Fact.val (.int .u8 68)) :: ((134 : Nat), Fact.val (.bool false)) :: []) slot).holds vv ww) (fun _ => undef) rfl (by kernel_rfl) 32 _ rfl rfl (by kernel_rfl) ?_ (fun _ v w w' hc h => Fact.stays _ v w w' hc h) ?_ ?_
  · repeat (refine ⟨⟨_, rfl, fun _ _ => rfl⟩, ?_⟩)
    exact trivial
  · refine ⟨?_, ?_, ?_, ?_, ?_, ?_, ?_, ?_, ?_, ?_, ?_, ?_, ?_, ?_, ?_, ?_, ?_, ?_, ?_, ?_, ?_, ?_, ?_, ?_, ?_, ?_, ?_, ?_, ?_, ?_, ?_, ?_, trivial⟩
    · intro u w_ hc hd K hK -- 103
      clear hd
      go_simp
      exact hK.out (.slice xa LN xc) w_ (Chg.refl _ _) rfl
    · intro u w_ hc hd K hK -- 104
      clear hd
      go_simp
      exact hK.out (.slice ya LN yc) w_ (Chg.refl _ _) rfl
    · intro u w_ hc hd K hK -- 105
      have h103 : (Fact.val (.slice xa LN xc)).holds (u 103) w_ := hd.get 0 (by kernel_rfl)
      simp only [Fact.holds] at h103
      have h104 : (Fact.val (.slice ya LN yc)).holds (u 104) w_ := hd.get 1 (by kernel_rfl)
      simp only [Fact.holds] at h104
      clear hd
      simp only [h103, h104] at hK
      go_simp
      refine Calls.mono (sameR_any xa ya LN xc yc L w_ (HX.out w_ hc) (HY.out w_ hc) HLB.out) ?_
      rintro z w2 ⟨rfl, k2, rfl⟩
      exact hK.out _ _ (chg_drewN _ _) rfl
    · intro u w_ hc hd K hK -- 106
      have h105 : (Fact.val (.bool true)).holds (u 105) w_ := hd.get 2 (by kernel_rfl)
      simp only [Fact.holds] at h105
      clear hd
      simp only [h105] at hK
      go_simp
      exact hK.out (.bool false) w_ (Chg.refl _ _) rfl
    · intro u w_ hc hd K hK -- 107
      have h106 : (Fact.val (.bool false)).holds (u 106) w_ := hd.get 3 (by kernel_rfl)
      simp only [Fact.holds] at h106
      clear hd
      simp only [h106] at hK
      go_simp
      exact hK.out (.bool false) w_ (Chg.refl _ _) rfl
    · intro u w_ hc hd K hK -- 108
      have h107 : (Fact.val (.bool false)).holds (u 107) w_ := hd.get 4 (by kernel_rfl)
      simp only [Fact.holds] at h107
      clear hd
      simp only [h107] at hK
      go_simp
      exact hK.out (.int .i64 (N : Int)) w_ (Chg.refl _ _) rfl
    · intro u w_ hc hd K hK -- 109
      have h107 : (Fact.val (.bool false)).holds (u 107) w_ := hd.get 4 (by kernel_rfl)
      simp only [Fact.holds] at h107
      clear hd
      simp only [h107] at hK
      go_simp
      exact hK.out (.int .i64 (N : Int)) w_ (Chg.refl _ _) rfl
    · intro u w_ hc hd K hK -- 110
      have h108 : (Fact.val (.int .i64 (N : Int))).holds (u 108) w_ := hd.get 5 (by kernel_rfl)
      simp only [Fact.holds] at h108
      have h109 : (Fact.val (.int .i64 (N : Int))).holds (u 109) w_ := hd.get 6 (by kernel_rfl)
      simp only [Fact.holds] at h109
      have h107 : (Fact.val (.bool false)).holds (u 107) w_ := hd.get 4 (by kernel_rfl)
      simp only [Fact.holds] at h107
      clear hd
      simp only [h107, h108, h109] at hK
      go_simp
      exact hK.out (.bool false) w_ (Chg.refl _ _) rfl
    · intro u w_ hc hd K hK -- 111
      have h107 : (Fact.val (.bool false)).holds (u 107) w_ := hd.get 4 (by kernel_rfl)
      simp only [Fact.holds] at h107
      have h110 : (Fact.val (.bool false)).holds (u 110) w_ := hd.get 7 (by kernel_rfl)
      simp only [Fact.holds] at h110
      clear hd
      simp only [h107, h110] at hK
      go_simp
      exact hK.out (.bool false) w_ (Chg.refl _ _) rfl
    · intro u w_ hc hd K hK -- 112
      have h111 : (Fact.val (.bool false)).holds (u 111) w_ := hd.get 8 (by kernel_rfl)
      simp only [Fact.holds] at h111
      clear hd
      simp only [h111] at hK
      go_simp
      exact hK.out (.bool false) w_ (Chg.refl _ _) rfl
    · intro u w_ hc hd K hK -- 113
      have h112 : (Fact.val (.bool false)).holds (u 112) w_ := hd.get 9 (by kernel_rfl)
      simp only [Fact.holds] at h112
      clear hd
      simp only [h112] at hK
      go_simp
      exact hK.out (.int .i64 er) w_ (Chg.refl _ _) rfl
    · intro u w_ hc hd K hK -- 114
      have h113 : (Fact.val (.int .i64 er)).holds (u 113) w_ := hd.get 10 (by kernel_rfl)
      simp only [Fact.holds] at h113
      have h112 : (Fact.val (.bool false)).holds (u 112) w_ := hd.get 9 (by kernel_rfl)
      simp only [Fact.holds] at h112
      clear hd
      simp only [h112, h113] at hK
      go_simp
      refine Calls.mono (num_q _ _) ?_
      rintro z w2 ⟨rfl, rfl⟩
      exact hK.out _ _ (Chg.refl _ _) rfl
    · intro u w_ hc hd K hK -- 115
      have h112 : (Fact.val (.bool false)).holds (u 112) w_ := hd.get 9 (by kernel_rfl)
      simp only [Fact.holds] at h112
      clear hd
      simp only [h112] at hK
      go_simp
      exact hK.out (.int .i64 er) w_ (Chg.refl _ _) rfl
    · intro u w_ hc hd K hK -- 116
      have h114 : (Fact.val (.int .i64 er)).holds (u 114) w_ := hd.get 11 (by kernel_rfl)
      simp only [Fact.holds] at h114
      have h115 : (Fact.val (.int .i64 er)).holds (u 115) w_ := hd.get 12 (by kernel_rfl)
      simp only [Fact.holds] at h115
      have h112 : (Fact.val (.bool false)).holds (u 112) w_ := hd.get 9 (by kernel_rfl)
      simp only [Fact.holds] at h112
      clear hd
      simp only [h112, h114, h115] at hK
      go_simp
      exact hK.out (.bool false) w_ (Chg.refl _ _) rfl
    · intro u w_ hc hd K hK -- 117
      have h112 : (Fact.val (.bool false)).holds (u 112) w_ := hd.get 9 (by kernel_rfl)
      simp only [Fact.holds] at h112
      have h116 : (Fact.val (.bool false)).holds (u 116) w_ := hd.get 13 (by kernel_rfl)
      simp only [Fact.holds] at h116
      clear hd
      simp only [h112, h116] at hK
      go_simp
      exact hK.out (.bool false) w_ (Chg.refl _ _) rfl
    · intro u w_ hc hd K hK -- 118
      have h117 : (Fact.val (.bool false)).holds (u 117) w_ := hd.get 14 (by kernel_rfl)
      simp only [Fact.holds] at h117
      clear hd
      simp only [h117] at hK
      go_simp
      exact hK.out (.bool false) w_ (Chg.refl _ _) rfl
    · intro u w_ hc hd K hK -- 119
      have h118 : (Fact.val (.bool false)).holds (u 118) w_ := hd.get 15 (by kernel_rfl)
      simp only [Fact.holds] at h118
      clear hd
      simp only [h118] at hK
      go_simp
      exact hK.out (.slice (some ⟨og, 0, none⟩) (bn + 1) oc) w_ (Chg.refl _ _) rfl
    · intro u w_ hc hd K hK -- 120
      have h118 : (Fact.val (.bool false)).holds (u 118) w_ := hd.get 15 (by kernel_rfl)
      simp only [Fact.holds] at h118
      clear hd
      simp only [h118] at hK
      go_simp
      exact hK.out (.slice ba bn bc) w_ (Chg.refl _ _) rfl
    · intro u w_ hc hd K hK -- 121
      have h120 : (Fact.val (.slice ba bn bc)).holds (u 120) w_ := hd.get 17 (by kernel_rfl)
      simp only [Fact.holds] at h120
      have h118 : (Fact.val (.bool false)).holds (u 118) w_ := hd.get 15 (by kernel_rfl)
      simp only [Fact.holds] at h118
      clear hd
      simp only [h118, h120] at hK
      go_simp
      exact hK.out (.int .i64 (bn : Int)) w_ (Chg.refl _ _) rfl
    · intro u w_ hc hd K hK -- 122
      have h119 : (Fact.val (.slice (some ⟨og, 0, none⟩) (bn + 1) oc)).holds (u 119) w_ := hd.get 16 (by kernel_rfl)
      simp only [Fact.holds] at h119
      have h121 : (Fact.val (.int .i64 (bn : Int))).holds (u 121) w_ := hd.get 18 (by kernel_rfl)
      simp only [Fact.holds] at h121
      have h118 : (Fact.val (.bool false)).holds (u 118) w_ := hd.get 15 (by kernel_rfl)
      simp only [Fact.holds] at h118
      clear hd
      simp only [h118, h119, h121] at hK
      go_simp
      exact hK.out (.slice (some ⟨og, 0, none⟩) bn oc) w_ (Chg.refl _ _) rfl
    · intro u w_ hc hd K hK -- 123
      have h122 : (Fact.val (.slice (some ⟨og, 0, none⟩) bn oc)).holds (u 122) w_ := hd.get 19 (by kernel_rfl)
      simp only [Fact.holds] at h122
      have h118 : (Fact.val (.bool false)).holds (u 118) w_ := hd.get 15 (by kernel_rfl)
      simp only [Fact.holds] at h118
      clear hd
      simp only [h118, h122] at hK
      have hcv := Bk.conv8_here (Bk.row8_chg HRO.out hc)
      rw [hST] at hcv
      go_simp
      exact hK.out _ w_ (Chg.refl _ _) rfl
    · intro u w_ hc hd K hK -- 124
      have h118 : (Fact.val (.bool false)).holds (u 118) w_ := hd.get 15 (by kernel_rfl)
      simp only [Fact.holds] at h118
      clear hd
      simp only [h118] at hK
      go_simp
      exact hK.out (.slice ba bn bc) w_ (Chg.refl _ _) rfl
    · intro u w_ hc hd K hK -- 125
      have h124 : (Fact.val (.slice ba bn bc)).holds (u 124) w_ := hd.get 21 (by kernel_rfl)
      simp only [Fact.holds] at h124
      have h118 : (Fact.val (.bool false)).holds (u 118) w_ := hd.get 15 (by kernel_rfl)
      simp only [Fact.holds] at h118
      clear hd
      simp only [h118, h124] at hK
      have hcv := Bk.conv8_here (Bk.row8_chg HRB.out hc)
      rw [hST] at hcv
      go_simp
      exact hK.out _ w_ (Chg.refl _ _) rfl
    · intro u w_ hc hd K hK -- 126
      have h123 : (Fact.val (.string ST)).holds (u 123) w_ := hd.get 20 (by kernel_rfl)
      simp only [Fact.holds] at h123
      have h125 : (Fact.val (.string ST)).holds (u 125) w_ := hd.get 22 (by kernel_rfl)
      simp only [Fact.holds] at h125
      have h118 : (Fact.val (.bool false)).holds (u 118) w_ := hd.get 15 (by kernel_rfl)
      simp only [Fact.holds] at h118
      clear hd
      simp only [h118, h123, h125] at hK
      go_simp
      exact hK.out (.bool false) w_ (Chg.refl _ _) rfl
    · intro u w_ hc hd K hK -- 127
      have h118 : (Fact.val (.bool false)).holds (u 118) w_ := hd.get 15 (by kernel_rfl)
      simp only [Fact.holds] at h118
      have h126 : (Fact.val (.bool false)).holds (u 126) w_ := hd.get 23 (by kernel_rfl)
      simp only [Fact.holds] at h126
      clear hd
      simp only [h118, h126] at hK
      go_simp
      exact hK.out (.bool false) w_ (Chg.refl _ _) rfl
    · intro u w_ hc hd K hK -- 128
      have h127 : (Fact.val (.bool false)).holds (u 127) w_ := hd.get 24 (by kernel_rfl)
      simp only [Fact.holds] at h127
      clear hd
      simp only [h127] at hK
      go_simp
      exact hK.out (.bool false) w_ (Chg.refl _ _) rfl
    · intro u w_ hc hd K hK -- 129
      have h128 : (Fact.val (.bool false)).holds (u 128) w_ := hd.get 25 (by kernel_rfl)
      simp only [Fact.holds] at h128
      clear hd
      simp only [h128] at hK
      go_simp
      exact hK.out (.slice (some ⟨og, 0, none⟩) (bn + 1) oc) w_ (Chg.refl _ _) rfl
    · intro u w_ hc hd K hK -- 130
      have h128 : (Fact.val (.bool false)).holds (u 128) w_ := hd.get 25 (by kernel_rfl)
      simp only [Fact.holds] at h128
      clear hd
      simp only [h128] at hK
      go_simp
      exact hK.out (.slice ba bn bc) w_ (Chg.refl _ _) rfl
    · intro u w_ hc hd K hK -- 131
      have h130 : (Fact.val (.slice ba bn bc)).holds (u 130) w_ := hd.get 27 (by kernel_rfl)
      simp only [Fact.holds] at h130
      have h128 : (Fact.val (.bool false)).holds (u 128) w_ := hd.get 25 (by kernel_rfl)
      simp only [Fact.holds] at h128
      clear hd
      simp only [h128, h130] at hK
      go_simp
      exact hK.out (.int .i64 (bn : Int)) w_ (Chg.refl _ _) rfl
    · intro u w_ hc hd K hK -- 132
      have h129 : (Fact.val (.slice (some ⟨og, 0, none⟩) (bn + 1) oc)).holds (u 129) w_ := hd.get 26 (by kernel_rfl)
      simp only [Fact.holds] at h129
      have h131 : (Fact.val (.int .i64 (bn : Int))).holds (u 131) w_ := hd.get 28 (by kernel_rfl)
      simp only [Fact.holds] at h131
      have h128 : (Fact.val (.bool false)).holds (u 128) w_ := hd.get 25 (by kernel_rfl)
      simp only [Fact.holds] at h128
      clear hd
      simp only [h128, h129, h131] at hK
      go_simp
      rw [if_pos (show (bn : Int) < (bn : Int) + 1 by omega)]
      exact hK.out _ w_ (Chg.refl _ _) rfl
    · intro u w_ hc hd K hK -- 133
      have h132 : (Fact.val (.pointer (some ⟨og, bn, none⟩))).holds (u 132) w_ := hd.get 29 (by kernel_rfl)
      simp only [Fact.holds] at h132
      have h128 : (Fact.val (.bool false)).holds (u 128) w_ := hd.get 25 (by kernel_rfl)
      simp only [Fact.holds] at h128
      clear hd
      simp only [h128, h132] at hK
      have hcl := cell_chg HCE.out hc
      go_simp
      exact hK.out _ w_ (Chg.refl _ _) rfl
    · intro u w_ hc hd K hK -- 134
      have h133 : (Fact.val (.int .u8 68)).holds (u 133) w_ := hd.get 30 (by kernel_rfl)
      simp only [Fact.holds] at h133
      have h128 : (Fact.val (.bool false)).holds (u 128) w_ := hd.get 25 (by kernel_rfl)
      simp only [Fact.holds] at h128
      clear hd
      simp only [h128, h133] at hK
      go_simp
      exact hK.out (.bool false) w_ (Chg.refl _ _) rfl
  · intro u w7 hc hA K hK
    have h128 : (Fact.val (.bool false)).holds (u 128) w7 := hA.at 128 (by kernel_rfl)
    have h134 : (Fact.val (.bool false)).holds (u 134) w7 := hA.at 134 (by kernel_rfl)
    simp only [Fact.holds] at h128 h134
    have HC11 : Hid (Chg (fun _ => False) w0 w7) := chg_then HC10.out hc
    have HC111 : Hid (Chg (fun _ => False) w1 w7) := chg_then HC110.out hc
    clear hA hc hss hss' g1 g2 HX HY HRO HRB HCE HLB HC10 HC110
    simp only [h128, h134] at hK ⊢
    clear h128 h134
    go_simp
    refine hK.out _ _ ?_
    have cI := chg_one w7 (.cells #[.int .i64 12] 3)
    have hownI := own_int1 w7 12
    have hsrcI := (HA0.out.new (chg_then HC11.out cI)).src
    have hBI : w7.heap.size ≤ (w7.alloc (.cells #[.int .i64 12] 3)).heap.size := cI.size
    have HCI : Hid (Chg (fun _ => False) w7 (w7.alloc (.cells #[.int .i64 12] 3))) := cI
    clear cI
    go_wp2_with (at_builtin; refine wpList_append_moved rfl _ _ 38 rfl w7.heap.size 3 ii (.int .i64 0) 1 8 Tryd.underlying38 hii hi0 hi1 hi2 rfl (by decide) _ 1 (ins .i64 [12]) rfl aa an ac rfl (ins .i64 as_) ?a1 ?a2 ?a3 ?b1 ?b2 ?b3 ?_)
    case a1 => exact hownI
    case a2 => exact hsrcI
    case a3 => exact ins_one _ _
    case b1 => unfold maxLen; omega
    case b2 => omega
    case b3 => exact hBI
    intro vI wI hoI hgI hmI
    have cI2 : Chg (fun _ => False) w7 wI := HCI.out.grown hgI (fun j e => .inr ((hownI.lt j e).1))
    obtain ⟨fa, fc, rfl⟩ := form1 hoI
    have HFR : Hid (InF wI fa (1 + an) fc (12 :: as_)) := ⟨from_own hoI, by rw [List.length_cons, HAL.out, Nat.add_comm], fun k x hk => by
      cases k with
      | zero => simp at hk; subst hk; unfold I64; omega
      | succ k => exact HA0.out.rng k x (by simpa using hk)⟩
    have HCI0 : Hid (Chg (fun _ => False) w0 wI) := chg_then HC11.out cI2
    have HCI1 : Hid (Chg (fun _ => False) w1 wI) := chg_then HC111.out cI2
    clear hoI hgI hmI hownI hsrcI hBI HCI HC11 HC111 cI2
    go_wp2_with fail
    go_loopw [140] (fun i wr => ∃ j : Nat, j ≤ 1 + an ∧ i = .int .i64 (j : Int) ∧ Hid (Chg (fun _ => False) wI wr)) (fun i _ => 1 + an - (intOf i).toNat)
    case atStart => exact ⟨0, by omega, rfl, Chg.refl _ _⟩
    case round =>
      obtain ⟨j, hj, rfl, HC⟩ := hrel
      have hji : (j : Int) ≤ 1 + (an : Int) := by omega
      by_cases hlt : j < 1 + an
      · have d1 : decide ((j : Int) < 1 + (an : Int)) = true := decide_eq_true (by omega)
        have d1' : decide (j < 1 + an) = true := decide_eq_true hlt
        obtain ⟨frm, fb, fo, hfI, hfq, rfl, x0⟩ := (HFR.out.new HC.out).at hlt
        clear hfq
        have HCR0 : Hid (Chg (fun _ => False) w0 wr) := chg_then HCI0.out HC.out
        have HCR1 : Hid (Chg (fun _ => False) w1 wr) := chg_then HCI1.out HC.out
        have HQ : Hid (Ix23.placesI frm l = ([], 0, 0, 7) ∨ ((Ix23.rightB 0 0 l = true ∧ 0 ≤ frm ∧ frm + Ix23.bsum l ≤ 9223372036854775807) ∧ Ix23.placesI frm l = (Ix23.placeL frm 0 l, frm + Ix23.bsum l, Ix23.ssum l, 0))) := by
          show _ ∨ _
          by_cases hok : Ix23.rightB 0 0 l = true ∧ 0 ≤ frm ∧ frm + Ix23.bsum l ≤ 9223372036854775807
          · exact .inr ⟨hok, placesI_yes hok.1 hok.2.1 hok.2.2⟩
          · exact .inl (placesI_no hok)
        have HL1 : Hid _ := S.places frm ra n rc l wr (S.keep HT.out HCR0.out) (HRK.out.F.new HCR1.out) (by omega) hfI
        have HL2 : Hid (∀ ww, Chg (fun _ => False) w0 ww → Calls Tryd.prog 22 #[.int .i64 frm, .slice ad n c] ww fun e w' => ∃ sv, e = .returned (.tuple #[sv, .int .i64 (Ix23.placesI frm l).2.1, .int .i64 (Ix23.placesI frm l).2.2.1, .int .i64 (Ix23.placesI frm l).2.2.2]) ∧ PlO w' ww.heap.size sv (Ix23.placesI frm l).1 ∧ Chg (fun _ => False) ww w') := fun ww hc => rplaces_any frm ad n c l ww (HL0.out.new hc) (by omega) hfI
        have hQI := placesI_I frm l
        have hQN := placesI_len frm l
        rw [HLN.out] at hQN
        obtain ⟨⟨Q, QE, QS, QF⟩, hpq⟩ : ∃ x, Ix23.placesI frm l = x := ⟨_, rfl⟩
        rw [hpq] at HQ HL1 HL2 hQI hQN
        simp only at HL1 HL2 hQI hQN
        obtain ⟨QN, hqn⟩ : ∃ x, Q.length = x := ⟨_, rfl⟩
        have HQN : Hid (Q.length = QN) := hqn
        rw [hqn] at hQN
        have HQI : Hid (∀ (k : Nat) (p : Plc), Q[k]? = some p → p.I) := hQI
        have hqni : (QN : Int) + 1 ≤ 4398046511104 := by omega
        have d2 : (QE != QE) = false := by simp
        have d3 : (QS != QS) = false := by simp
        have d4 : (QF != QF) = false := by simp
        obtain ⟨fI0, fI1⟩ := hfI
        clear hpq hQI hqn
        go_wp2_with fail
        refine Calls.mono HL1.out ?_
        rintro z w12 ⟨sv, rfl, hs12, c12⟩
        obtain ⟨sa, sc, rfl, _⟩ := formI hs12
        rw [HQN.out]
        have HC12 : Hid (Chg (fun _ => False) w0 w12) := chg_then HCR0.out c12
        have HCB12 : Hid (Chg (fun _ => False) wr w12) := c12
        have HS12 : Hid (PlO w12 wr.heap.size (.slice sa Q.length sc) Q) := hs12
        have HL2' : Hid _ := HL2.out w12 HC12.out
        clear hs12 c12 HL1 HL2 x0
        go_wp2_with fail
        refine Calls.mono HL2'.out ?_
        rintro z w13 ⟨sv, rfl, hs13, c13⟩
        obtain ⟨ta, tc, rfl, _⟩ := formI hs13
        rw [HQN.out]
        have HC13 : Hid (Chg (fun _ => False) w0 w13) := chg_then HC12.out c13
        have HCB13 : Hid (Chg (fun _ => False) wr w13) := chg_then HCB12.out c13
        have HS13 : Hid (PlO w13 wr.heap.size (.slice sa Q.length sc) Q) := HS12.out.new c13
        have HTO13 : Hid (PlO w13 w12.heap.size (.slice ta Q.length tc) Q) := hs13
        have HSL : Hid (∀ g, (Value.slice sa QN sc).ownBlock = some g → g < w12.heap.size) := fun g e => by
          have h9 := HS12.out
          unfold PlO at h9
          rw [HQN.out] at h9
          exact (h9.lt g e).2
        have HT13 : Hid (PlF w13 ta QN tc Q) := by
          have h9 := PlO.F hs13 HQI.out
          rw [HQN.out] at h9
          exact h9
        have HF13 : Hid (PlF w13 sa QN sc Q) := by
          have h9 := PlO.F HS13.out HQI.out
          rw [HQN.out] at h9
          exact h9
        have HSM : Hid _ := sameP_any sa ta QN sc tc Q w13 HF13.out HT13.out (by omega)
        clear hs13 c13 HL2' HS12 HC12 HCB12
        go_wp2_with fail
        refine Calls.mono HSM.out ?_
        rintro z w14 ⟨rfl, k14, rfl⟩
        have c14 := chg_drewN w13 k14
        have HC14 : Hid (Chg (fun _ => False) w0 (w13.drewN k14)) := chg_then HC13.out c14
        have HCB14 : Hid (Chg (fun _ => False) wr (w13.drewN k14)) := chg_then HCB13.out c14
        have HS14 : Hid (PlO (w13.drewN k14) wr.heap.size (.slice sa Q.length sc) Q) := HS13.out.new c14
        have HT14 : Hid (PlF (w13.drewN k14) ta QN tc Q) := HT13.out.new c14
        have HTO14 : Hid (PlO (w13.drewN k14) w12.heap.size (.slice ta Q.length tc) Q) := HTO13.out.new c14
        clear c14 HSM HS13 HT13 HF13 HC13 HCB13 HTO13
        generalize w13.drewN k14 = w14 at *
        go_wp2_with fail
        refine Calls.mono (num_q _ _) ?_
        rintro z w9 ⟨rfl, rfl⟩
        go_wp2_with fail
        refine Calls.mono (HKP.out w14 (chg_then HCR1.out HCB14.out)) ?_
        rintro z w15 ⟨rfl, k15, rfl⟩
        have c15 := chg_drewN w14 k15
        have HC15 : Hid (Chg (fun _ => False) w0 (w14.drewN k15)) := chg_then HC14.out c15
        have HCB15 : Hid (Chg (fun _ => False) wr (w14.drewN k15)) := chg_then HCB14.out c15
        have HS15 : Hid (PlO (w14.drewN k15) wr.heap.size (.slice sa Q.length sc) Q) := HS14.out.new c15
        have HTO15 : Hid (PlO (w14.drewN k15) w12.heap.size (.slice ta Q.length tc) Q) := HTO14.out.new c15
        clear c15 HS14 HT14 HC14 HCB14 HTO14 d2 d3 d4
        generalize w14.drewN k15 = w15 at *
        rcases HQ.out with hq7 | ⟨hok, hq0⟩
        · simp only [Prod.mk.injEq] at hq7
          obtain ⟨-, -, -, rfl⟩ := hq7
          go_wp2
          go_roundw
          case rel => exact ⟨j + 1, by omega, by go_num, chg_then HC.out HCB15.out⟩
          case measure => simp [intOf]; omega
        · simp only [Prod.mk.injEq] at hq0
          obtain ⟨hQ, -, -, rfl⟩ := hq0
          have HQL : Hid (Q = Ix23.placeL frm 0 l) := hQ
          have HOK : Hid (Ix23.rightB 0 0 l = true ∧ 0 ≤ frm ∧ frm + Ix23.bsum l ≤ 9223372036854775807) := hok
          obtain rfl : QN = n := by rw [← HQN.out, hQ, Ix23.placeL_len, HLN.out]
          have HST : Hid (∀ (k : Nat) (p : Plc), Q[k]? = some p → 0 ≤ p.st) := fun k p hp => by
            rw [hQ] at hp
            obtain ⟨_, q, _, e, _, h9, _⟩ := places_I hok.1 hok.2.1 hok.2.2 k p hp
            rw [e]
            exact h9
          clear hQ hok HQ
          have cA := chg_one w15 (.cells #[.int .i64 (-3), .int .i64 0, .int .i64 0, .int .i64 0] 45)
          have hown := HS15.out.new cA
          unfold PlO at hown
          rw [HQN.out] at hown
          have hsrc := from_pl w15 endP 45
          have hB : wr.heap.size ≤ (w15.alloc (.cells #[.int .i64 (-3), .int .i64 0, .int .i64 0, .int .i64 0] 45)).heap.size := (chg_then HCB15.out cA).size
          have HCA : Hid (Chg (fun _ => False) wr (w15.alloc (.cells #[.int .i64 (-3), .int .i64 0, .int .i64 0, .int .i64 0] 45))) := chg_then HCB15.out cA
          have HCA15 : Hid (Chg (fun _ => False) w15 (w15.alloc (.cells #[.int .i64 (-3), .int .i64 0, .int .i64 0, .int .i64 0] 45))) := cA
          clear cA
          go_wp2_with (at_builtin; refine wpList_append_moved rfl _ _ 39 rfl wr.heap.size 45 ip (.agg #[.int .i64 0, .int .i64 0, .int .i64 0, .int .i64 0]) 4 32 Tryd.underlying39 hip hp0 hp1 hp2 rfl (by decide) _ QN (pls Q) rfl (some ⟨w15.heap.size, 0, none⟩) 1 1 rfl (pls [endP]) ?a1 ?a2 ?a3 ?b1 ?b2 ?b3 ?_)
          case a1 => exact hown
          case a2 => exact hsrc
          case a3 => exact pls_cell _
          case b1 => unfold maxLen; omega
          case b2 => omega
          case b3 => exact hB
          intro v16 w16 ho16 hg16 hm16
          have c16 : Chg (fun g => (Value.slice sa QN sc).ownBlock = some g) w15 w16 := (HCA15.out.mono (fun z f => f.elim)).grown hg16 (fun g e => .inl e)
          have HCB16 : Hid (Chg (fun _ => False) wr w16) := HCA.out.grown hg16 (fun g e => .inr ((hown.lt g e).1))
          have HTO16 : Hid (PlO w16 w12.heap.size (.slice ta Q.length tc) Q) := owns_keepI HTO15.out c16 (fun g e f => by
            have h8 := HSL.out g f
            have h9 := (World.ownsRow.lt HTO15.out g e).1
            omega)
          have HT16 : Hid (PlF w16 ta QN tc Q) := by
            have h9 := PlO.F HTO16.out HQI.out
            rw [HQN.out] at h9
            exact h9
          obtain ⟨sb, sd, rfl, hsd⟩ := formI ho16
          rw [← pls_app] at ho16
          have HSA : Hid (PlF w16 sb (QN + 1) sd (Q ++ [endP])) := ⟨from_own ho16, by rw [List.length_append, HQN.out]; rfl, hsd, fun k p hk => by
            by_cases hkl : k < Q.length
            · rw [List.getElem?_append_left hkl] at hk
              exact HQI.out k p hk
            · have h1 := (List.getElem?_eq_some_iff.1 hk).1
              simp at h1
              obtain rfl : k = Q.length := by omega
              simp at hk
              subst hk
              unfold Plc.I Rec.I I64 endP
              decide⟩
          have HSF : Hid (PlF w16 sb QN sd Q) := HSA.out.front HQN.out
          have hcutS : ∀ ww, (Instr.sliceAt 39 (.slice sb (QN + 1) sd) none (some (.int .i64 (QN : Int))) none).run Tryd.prog ww = .ok (.slice sb QN sd) ww := fun ww => run_cutZ_hi undPl elemPl sizePl _ (QN + 1) sd QN ww (by omega)
          clear c16 ho16 hg16 hm16 hown hsrc hB HCA HCA15 HTO15 HS15 HTO16
          go_wp2_with fail
          go_loopw [197] (fun i wr => ∃ q : Nat, q ≤ an ∧ i = .int .i64 (q : Int) ∧ Hid (Chg (fun _ => False) w16 wr)) (fun i _ => an - (intOf i).toNat)
          case atStart => exact ⟨0, by omega, rfl, Chg.refl _ _⟩
          case round =>
            obtain ⟨q, hq, rfl, HCX⟩ := hrel
            have hqi : (q : Int) ≤ (an : Int) := by omega
            have HCX0 : Hid (Chg (fun _ => False) w0 wr) := chg_then HCR0.out (chg_then HCB16.out HCX.out)
            by_cases hql : q < an
            · have z1 : decide ((q : Int) < (an : Int)) = true := decide_eq_true (by omega)
              have z1' : decide (q < an) = true := decide_eq_true hql
              obtain ⟨off, ab, ao, hoI, hof, hab, x0⟩ := (HA0.out.new HCX0.out).at hql
              subst hab
              have HFA : Hid _ := S.find off frm sb QN sd l wr (S.keep HT.out HCX0.out) HOK.out.1 HOK.out.2.1 HOK.out.2.2 (by have h9 := HSF.out.new HCX.out; rw [HQL.out] at h9; exact h9) (by omega) hoI
              rw [← HQL.out] at HFA
              have HFB : Hid (∀ ww, Chg (fun _ => False) wr ww → Calls Tryd.prog 24 #[.int .i64 off, .slice ta QN tc] ww fun e w' => e = .returned (.int .i64 (Ix23.findI 0 off Q)) ∧ ∃ k, w' = ww.drewN k) := fun ww hc => rfind_any off ta QN tc Q ww (HT16.out.new (chg_then HCX.out hc)) (by omega) hoI HST.out
              have z2 : ((Ix23.findI 0 off Q) != (Ix23.findI 0 off Q)) = false := by simp
              generalize Ix23.findI 0 off Q = fi at *
              obtain ⟨o0, o1⟩ := hoI
              clear hof
              go_wp2_with fail
              refine Calls.mono HFA.out ?_
              rintro z w17 ⟨rfl, c17⟩
              have HCX17 : Hid (Chg (fun _ => False) w16 w17) := chg_then HCX.out c17
              have HFB' : Hid _ := HFB.out w17 c17
              clear c17 HFA HFB x0
              go_wp2_with fail
              refine Calls.mono HFB'.out ?_
              rintro z w18 ⟨rfl, k18, rfl⟩
              have HCX18 : Hid (Chg (fun _ => False) w16 (w17.drewN k18)) := chg_then HCX17.out (chg_drewN w17 k18)
              go_wp2
              go_roundw
              case rel => exact ⟨q + 1, by omega, by go_num, HCX18⟩
              case measure => simp [intOf]; omega
            · obtain rfl : q = an := by omega
              have z1 : decide ((q : Int) < (q : Int)) = false := decide_eq_false (by omega)
              obtain ⟨p, pb, po, hp, _, hpab, x0, _, _, _⟩ := (HSA.out.new HCX.out).at (k := QN) (by omega)
              rw [List.getElem?_append_right (by rw [HQN.out]; exact Nat.le_refl _), HQN.out] at hp
              simp at hp
              subst hp
              subst hpab
              simp only [endP] at x0
              have HSM2 : Hid _ := sameP_any _ ta QN sd tc Q wr (HSF.out.new HCX.out) (HT16.out.new HCX.out) (by omega)
              go_wp2_with fail
              refine Calls.mono HSM2.out ?_
              rintro z w17 ⟨rfl, k17, rfl⟩
              have HCX18 : Hid (Chg (fun _ => False) w16 (wr.drewN k17)) := chg_then HCX.out (chg_drewN wr k17)
              go_wp2
              go_roundw
              case rel => exact ⟨j + 1, by omega, by go_num, chg_then HC.out (chg_then HCB16.out HCX18.out)⟩
              case measure => simp [intOf]; omega
      · obtain rfl : j = 1 + an := by omega
        have d1 : decide (((1 + an : Nat) : Int) < 1 + (an : Int)) = false := decide_eq_false (by omega)
        have HCK : Hid (Chg (fun _ => False) w0 wr) := chg_then HCI0.out HC.out
        go_wp2_with fail
        refine Calls.mono (HK.out _ HCK.out) ?_
        rintro z w9 ⟨rfl, c9⟩
        have HC9 : Hid (Chg (fun _ => False) w0 w9) := chg_then HCK.out c9
        clear c9
        go_wp2
        go_ret
        exact ⟨rfl, HC9.out⟩
end Go.Proofs.YtehfcfpbjenmjaaDoor
