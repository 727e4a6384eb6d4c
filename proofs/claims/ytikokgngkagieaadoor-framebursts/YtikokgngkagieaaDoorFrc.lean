/- The walk of FrameBack above what is asked of frame; of no statement by itself. -/
import Derived.Test.YtikokgngkagieaaDoorFrb
namespace Go.Proofs.YtikokgngkagieaaDoor
open Go.RowKit
set_option linter.unusedVariables false
set_option linter.unusedSimpArgs false
theorem row8_nil (w : World) : Row8 w none 0 0 (nums []) := ⟨rfl, .inl ⟨rfl, rfl, rfl⟩⟩
theorem wr64n {n : Int} (h0 : 0 ≤ n) (h1 : n ≤ 4611686018427387904) : wrap64 n = n := by unfold wrap64; omega
/-- The size of an index, of any number. -/
def qt (n : Int) : Nat := 4 * (1 + (IntKind.u64.wrap n % 4294967296).toNat)
theorem qt_is (n : Int) : 4 ≤ qt n ∧ qt n ≤ 17179869184 ∧ qt n % 4 = 0 ∧ (qt n : Int) = 4 * (1 + IntKind.u64.wrap n % 4294967296) := by
  have e : IntKind.u64.wrap n = n % 18446744073709551616 := by simp [IntKind.wrap, IntKind.signed, IntKind.bits]
  unfold qt
  rw [e]
  omega
theorem footF_0 {k n : Nat} (h : Fr24.kind (k : Int) = true) (h1 : 4 ≤ n) (h2 : n ≤ 17179869184) (h3 : n % 4 = 0) : Fr24.footF (k : Int) (n : Int) = (Fr24.footB k n, 0) := by
  unfold Fr24.footF
  rw [if_pos h, if_neg (by omega)]
  rfl
variable {Tab : World → Prop}
set_option maxHeartbeats 16000000 in
set_option maxRecDepth 100000 in
theorem back24_any (S : FrameSpec Tab) (kn qn : Int) (ad : Option Addr) (m c : Nat) (bs : List Nat) (w0 : World) (hT : Tab w0) (hq : I64 qn) (hb : Row8 w0 ad m c (nums bs)) (hd : Rc.Dig bs) (hc : m ≤ c) (hm : m ≤ 140737488351232) : Calls Tryd.prog 3 #[.int .i64 kn, .int .i64 qn, .slice ad m c] w0 fun e w' => e = .returned (.bool true) ∧ Chg (fun _ => False) w0 w' := by
  have HT : Hid (Tab w0) := hT
  have HB : Hid (Row8 w0 ad m c (nums bs)) := hb
  have HD : Hid (Rc.Dig bs) := hd
  have HM : Hid (m ≤ c ∧ m ≤ 140737488351232) := ⟨hc, hm⟩
  have HBL : Hid (bs.length = m) := by have h9 := hb.1; rw [nums_len] at h9; exact h9
  have hmi : (m : Int) ≤ 140737488351232 := by omega
  have HK : Hid _ := kinds_any kn w0
  have hkk := kd_kind kn
  obtain ⟨k, hk⟩ : ∃ k, kd kn = k := ⟨_, rfl⟩
  rw [hk] at HK hkk
  have HKK : Hid (Fr24.kind (k : Int) = true) := hkk
  have hkl := Fr24.kind_lt hkk
  obtain ⟨q1, q2, q3, q4⟩ := qt_is qn
  obtain ⟨n, hn⟩ : ∃ n, qt qn = n := ⟨_, rfl⟩
  rw [hn] at q1 q2 q3 q4
  obtain ⟨U, hU⟩ : ∃ u, IntKind.u64.wrap qn = u := ⟨_, rfl⟩
  rw [hU] at q4
  obtain ⟨V, hV⟩ : ∃ v, U % 4294967296 = v := ⟨_, rfl⟩
  rw [hV] at q4
  have hU0 : 0 ≤ V := by omega
  have hU1 : V < 4294967296 := by omega
  have Q4 : Hid ((n : Int) = 4 * (1 + V)) := q4
  have HUV : Hid ((IntKind.u64.wrap qn).tmod 4294967296 = V) := by
    have e : IntKind.u64.wrap qn = qn % 18446744073709551616 := by simp [IntKind.wrap, IntKind.signed, IntKind.bits]
    show _ = _
    rw [Int.tmod_eq_emod_of_nonneg (by rw [e]; omega), hU, hV]
  have HW1 : Hid (wrap64 V = V) := wr64n (by omega) (by omega)
  have HW2 : Hid (wrap64 (4 * wrap64 (1 + V)) = (n : Int)) := by
    show _ = _
    rw [wr64n (n := 1 + V) (by omega) (by omega), wr64n (n := 4 * (1 + V)) (by omega) (by omega), q4]
  have HN : Hid (4 ≤ n ∧ n ≤ 17179869184 ∧ n % 4 = 0) := ⟨q1, q2, q3⟩
  have hni : (n : Int) ≤ 17179869184 := by omega
  have HH0 : Hid (∀ w, Chg (fun _ => False) w0 w → Calls Tryd.prog 8 #[.int .i64 (k : Int)] w fun e w' => ∃ oa oc, e = .returned (.tuple #[.slice oa 12 oc, .int .i64 0]) ∧ ByO w' w.heap.size (.slice oa 12 oc) (Fr24.headB k) ∧ Chg (fun _ => False) w w') := fun w hw => by
    have h9 := S.head (k : Int) w (S.keep hT hw) (by unfold I64; omega)
    rw [Fr24.headF_0 hkk, Int.toNat_natCast] at h9
    refine h9.mono ?_
    rintro e w' ⟨ov, rfl, ho, c9⟩
    obtain ⟨oa, oc, rfl⟩ := byO_form ho
    rw [Fr24.headB_len] at ho ⊢
    exact ⟨oa, oc, rfl, ho, c9⟩
  have HF0 : Hid (∀ w, Chg (fun _ => False) w0 w → Calls Tryd.prog 9 #[.int .i64 (k : Int), .int .i64 (n : Int)] w fun e w' => ∃ oa oc, e = .returned (.tuple #[.slice oa 12 oc, .int .i64 0]) ∧ ByO w' w.heap.size (.slice oa 12 oc) (Fr24.footB k n) ∧ Chg (fun _ => False) w w') := fun w hw => by
    have h9 := S.foot (k : Int) (n : Int) w (S.keep hT hw) (by unfold I64; omega) (by unfold I64; omega)
    rw [footF_0 hkk q1 q2 q3] at h9
    refine h9.mono ?_
    rintro e w' ⟨ov, rfl, ho, c9⟩
    obtain ⟨oa, oc, rfl⟩ := byO_form ho
    rw [Fr24.footB_len] at ho ⊢
    exact ⟨oa, oc, rfl, ho, c9⟩
  have HFX : Hid (∀ w, Chg (fun _ => False) w0 w → Calls Tryd.prog 10 #[] w fun e w' => e = .returned (.bool true) ∧ Chg (fun _ => False) w w') := fun w hw => fixed24_any S w (S.keep hT hw)
  have HKB : Hid (k < 256) := by show _ < _; omega
  clear hT hb hd hc hm hq hk hkk hn q1 q2 q3 q4 hU hV
  go_enter Tryd.func3, Tryd.ntmps3
  go_wp2_with fail
  refine Calls.mono HK.out ?_
  rintro z w1 ⟨rfl, c1⟩
  have HC1 : Hid (Chg (fun _ => False) w0 w1) := c1
  have hx := HH0.out w1 c1
  have HX1 : Hid _ := hx
  clear hx
  clear c1 HK
  go_upto_region 3 with fail
  rw [HUV.out, HW1.out, HW2.out]
  generalize wrap64 (1 + V) = V1
  generalize IntKind.u64.wrap qn = V2
  clear hU0 hU1
  go_wp2_with fail
  refine Calls.mono HX1.out ?_
  rintro z w2 ⟨ha, hcap, rfl, hh, c2⟩
  have HH2 : Hid (ByO w2 w1.heap.size (.slice ha 12 hcap) (Fr24.headB k)) := hh
  have HC2 : Hid (Chg (fun _ => False) w0 w2) := chg_then HC1.out c2
  have hx := HF0.out w2 HC2.out
  have HX2 : Hid _ := hx
  clear hx
  clear hh c2 HX1
  go_wp2_with fail
  refine Calls.mono HX2.out ?_
  rintro z w3 ⟨fa, fcap, rfl, hf, c3⟩
  have HF3 : Hid (ByO w3 w2.heap.size (.slice fa 12 fcap) (Fr24.footB k n)) := hf
  have HH3 : Hid (ByO w3 w1.heap.size (.slice ha 12 hcap) (Fr24.headB k)) := HH2.out.new c3
  have HC3 : Hid (Chg (fun _ => False) w0 w3) := chg_then HC2.out c3
  have hx := HFX.out w3 HC3.out
  have HX3 : Hid _ := hx
  clear hx
  clear hf c3 HX2 HH2 HC2 HC1 Q4 HUV HW1 HW2
  go_wp2_with fail
  refine Calls.mono HX3.out ?_
  rintro z w4 ⟨rfl, c4⟩
  have HF4 : Hid (ByO w4 w2.heap.size (.slice fa 12 fcap) (Fr24.footB k n)) := HF3.out.new c4
  have HH4 : Hid (ByO w4 w1.heap.size (.slice ha 12 hcap) (Fr24.headB k)) := HH3.out.new c4
  have HC4 : Hid (Chg (fun _ => False) w0 w4) := chg_then HC3.out c4
  have HX4 : Hid _ := joined_any ha ad 12 hcap m c (Fr24.headB k) bs w4 (byO_row HH4.out).1 (Bk.row8_chg HB.out HC4.out) (by have := HM.out; omega)
  clear c4 HX3 HF3 HH3 HC3
  go_wp2_with fail
  refine Calls.mono HX4.out ?_
  rintro z w5 ⟨ja, jc, rfl, hj, c5⟩
  have HF5 : Hid (ByO w5 w2.heap.size (.slice fa 12 fcap) (Fr24.footB k n)) := HF4.out.new c5
  have HH5 : Hid (ByO w5 w1.heap.size (.slice ha 12 hcap) (Fr24.headB k)) := HH4.out.new c5
  have HC5 : Hid (Chg (fun _ => False) w0 w5) := chg_then HC4.out c5
  have HX5 := S.rhead ja (12 + m) jc (Fr24.headB k ++ bs) w5 (S.keep HT.out HC5.out) (byO_row hj).1 (dig_app (Fr24.headB_dig HKB.out) HD.out) (byO_row hj).2.2 (by have := HM.out; omega)
  rw [Fr24.rhead_back HKK.out] at HX5
  have HX5 : Hid _ := HX5
  clear hj c5 HX4 HF4 HH4 HC4
  go_wp2_with fail
  refine Calls.mono HX5.out ?_
  rintro z w6 ⟨rfl, c6⟩
  have HF6 : Hid (ByO w6 w2.heap.size (.slice fa 12 fcap) (Fr24.footB k n)) := HF5.out.new c6
  have HH6 : Hid (ByO w6 w1.heap.size (.slice ha 12 hcap) (Fr24.headB k)) := HH5.out.new c6
  have HC6 : Hid (Chg (fun _ => False) w0 w6) := chg_then HC5.out c6
  have HX6 : Hid _ := joined_any fa ad 12 fcap m c (Fr24.footB k n) bs w6 (byO_row HF6.out).1 (Bk.row8_chg HB.out HC6.out) (by have := HM.out; omega)
  clear c6 HX5 HF5 HH5 HC5
  go_wp2_with fail
  refine Calls.mono HX6.out ?_
  rintro z w7 ⟨ja, jc, rfl, hj, c7⟩
  have HF7 : Hid (ByO w7 w2.heap.size (.slice fa 12 fcap) (Fr24.footB k n)) := HF6.out.new c7
  have HH7 : Hid (ByO w7 w1.heap.size (.slice ha 12 hcap) (Fr24.headB k)) := HH6.out.new c7
  have HC7 : Hid (Chg (fun _ => False) w0 w7) := chg_then HC6.out c7
  have HX7 := S.rfoot ja (12 + m) jc (Fr24.footB k n ++ bs) w7 (S.keep HT.out HC7.out) (byO_row hj).1 (dig_app (Fr24.footB_dig HKB.out) HD.out) (byO_row hj).2.2 (by have := HM.out; omega)
  rw [Fr24.rfoot_back HKK.out HN.out.1 HN.out.2.1 HN.out.2.2] at HX7
  have HX7 : Hid _ := HX7
  clear hj c7 HX6 HF6 HH6 HC6
  go_wp2_with fail
  refine Calls.mono HX7.out ?_
  rintro z w8 ⟨rfl, c8⟩
  have HF8 : Hid (ByO w8 w2.heap.size (.slice fa 12 fcap) (Fr24.footB k n)) := HF7.out.new c8
  have HH8 : Hid (ByO w8 w1.heap.size (.slice ha 12 hcap) (Fr24.headB k)) := HH7.out.new c8
  have HC8 : Hid (Chg (fun _ => False) w0 w8) := chg_then HC7.out c8
  clear c8 HX7 HF7 HH7 HC7
  go_wp2_with fail
  go_loopw [16] (fun v wr => ∃ i : Nat, i ≤ 12 ∧ v = .int .i64 (i : Int) ∧ Hid (Chg (fun _ => False) w8 wr)) (fun v _ => 12 - (intOf v).toNat)
  case atStart => exact ⟨0, by omega, rfl, Chg.refl _ _⟩
  case round =>
    obtain ⟨i, hi, rfl, HC⟩ := hrel
    have hii : (i : Int) ≤ 12 := by omega
    by_cases hlt : i < 12
    · have d1 : decide ((i : Int) < 12) = true := decide_eq_true (by omega)
      have d1' : decide (i < 12) = true := decide_eq_true hlt
      have hr1 := row8_take (byO_row (HH8.out.new HC.out)).1 (i := i) (by omega)
      have hr2 := row8_take (byO_row (HF8.out.new HC.out)).1 (i := i) (by omega)
      have hc1 := (byO_row HH8.out).2.2
      have hc2 := (byO_row HF8.out).2.2
      have hcut1 : ∀ ww, (Instr.sliceAt 22 (.slice ha 12 hcap) none (some (.int .i64 (i : Int))) none).run Tryd.prog ww = .ok (.slice ha i hcap) ww := fun ww => run_cutZ_hi undBy elemBy sizeBy ha 12 hcap i ww (by omega)
      have hcut2 : ∀ ww, (Instr.sliceAt 22 (.slice fa 12 fcap) none (some (.int .i64 (i : Int))) none).run Tryd.prog ww = .ok (.slice fa i fcap) ww := fun ww => run_cutZ_hi undBy elemBy sizeBy fa 12 fcap i ww (by omega)
      have HJ1 : Hid _ := joined_any ha none i hcap 0 0 _ [] wr hr1 (row8_nil _) (by omega)
      have HR2 : Hid _ := hr2
      clear hr1 hr2 hc1 hc2
      go_wp2_with fail
      refine Calls.mono HJ1.out ?_
      rintro z w9 ⟨ja, jc, rfl, hj, c9⟩
      rw [Nat.add_zero, List.append_nil] at hj
      have HC9 : Hid (Chg (fun _ => False) w8 w9) := chg_then HC.out c9
      have HX9 := S.rhead ja i jc _ w9 (S.keep HT.out (chg_then HC8.out HC9.out)) (byO_row hj).1 (dig_take (Fr24.headB_dig HKB.out) i) (byO_row hj).2.2 (by omega)
      rw [Fr24.rhead_cut _ hlt] at HX9
      have HX9 : Hid _ := HX9
      have HR3 : Hid _ := Bk.row8_chg HR2.out c9
      clear hj c9 HJ1 HR2
      simp only [Nat.add_zero]
      go_wp2_with fail
      refine Calls.mono HX9.out ?_
      rintro z wA ⟨rfl, cA⟩
      have HCA : Hid (Chg (fun _ => False) w8 wA) := chg_then HC9.out cA
      have HJ2 : Hid _ := joined_any fa none i fcap 0 0 _ [] wA (Bk.row8_chg HR3.out cA) (row8_nil _) (by omega)
      clear cA HX9 HR3 HC9
      go_wp2_with fail
      refine Calls.mono HJ2.out ?_
      rintro z wB ⟨ja, jc, rfl, hj, cB⟩
      rw [Nat.add_zero, List.append_nil] at hj
      have HCB : Hid (Chg (fun _ => False) w8 wB) := chg_then HCA.out cB
      have HXB := S.rfoot ja i jc _ wB (S.keep HT.out (chg_then HC8.out HCB.out)) (byO_row hj).1 (dig_take (Fr24.footB_dig HKB.out) i) (byO_row hj).2.2 (by omega)
      rw [Fr24.rfoot_cut _ hlt] at HXB
      have HXB : Hid _ := HXB
      clear hj cB HJ2 HCA
      simp only [Nat.add_zero]
      go_wp2_with fail
      refine Calls.mono HXB.out ?_
      rintro z wC ⟨rfl, cC⟩
      have HCC : Hid (Chg (fun _ => False) w8 wC) := chg_then HCB.out cC
      clear cC HXB HCB hcut1 hcut2
      go_wp2
      go_roundw
      case rel => exact ⟨i + 1, by omega, by go_num, HCC⟩
      case measure => simp [intOf]; omega
    · obtain rfl : i = 12 := by omega
      have HCh : Hid (Chg (fun _ => False) w0 wr) := chg_then HC8.out HC.out
      clear HC HC8 HF8 HH8 HH0 HF0 HFX HN hii
      have HJh : Hid _ := joined_any ad none m c 0 0 bs [] wr (Bk.row8_chg HB.out HCh.out) (row8_nil _) (by omega)
      go_wp2_with fail
      refine Calls.mono HJh.out ?_
      rintro z w9 ⟨ja, jc, rfl, hj, c9⟩
      rw [Nat.add_zero, List.append_nil] at hj
      have HC9h : Hid (Chg (fun _ => False) w0 w9) := chg_then HCh.out c9
      have HRh : Hid _ := S.rhead ja m jc bs w9 (S.keep HT.out HC9h.out) (byO_row hj).1 HD.out (byO_row hj).2.2 (by have := HM.out; omega)
      obtain ⟨RA, hRA⟩ : ∃ x, Fr24.rheadF bs = x := ⟨_, rfl⟩
      have HRA : Hid (Fr24.rheadF bs = RA) := hRA
      rw [hRA] at HRh
      obtain ⟨rk, re⟩ := RA
      clear hj c9 HJh hRA
      simp only [Nat.add_zero]
      go_wp2_with fail
      refine Calls.mono HRh.out ?_
      rintro z wA ⟨rfl, cA⟩
      have HCAh : Hid (Chg (fun _ => False) w0 wA) := chg_then HC9h.out cA
      clear cA HRh HC9h
      by_cases heh : re = 0
      · have hq := Fr24.rhead_is (bs := bs) (by rw [HRA.out]; exact heh)
        rw [HRA.out] at hq
        obtain ⟨k9, hk9, hkk, h12, htk⟩ := hq
        simp only [Prod.mk.injEq] at hkk
        obtain ⟨rfl, rfl⟩ := hkk
        rw [HBL.out] at h12
        have hkd := Fr24.kind_lt hk9
        have HH : Hid _ := S.head (k9 : Int) wA (S.keep HT.out HCAh.out) (by unfold I64; omega)
        rw [Fr24.headF_0 hk9, Int.toNat_natCast] at HH
        have hlen := Fr24.headB_len k9
        clear heh
        go_wp2_with fail
        refine Calls.mono HH.out ?_
        rintro z wB ⟨ov, rfl, ho, cB⟩
        obtain ⟨oa, oc, rfl⟩ := byO_form ho
        have HCf : Hid (Chg (fun _ => False) w0 wB) := chg_then HCAh.out cB
        rw [hlen]
        have hcv0 : ∀ q, (convert 22 9 (.slice oa 12 oc)).run Tryd.prog (wB.drewN q) = .ok (.string (strOfNums (nums (Fr24.headB k9)))) (wB.drewN q) := fun q => Bk.conv8 (by have h9 := (byO_row (by rw [hlen] at ho; exact ho : ByO wB wA.heap.size (.slice oa 12 oc) (Fr24.headB k9))).1; exact h9) q
        have hcut : ∀ ww, (Instr.sliceAt 22 (.slice ad m c) none (some (.int .i64 12)) none).run Tryd.prog ww = .ok (.slice ad 12 c) ww := fun ww => run_cutZ_hi undBy elemBy sizeBy ad m c 12 ww (by have := HM.out; omega)
        have hcv1 : ∀ q, (convert 22 9 (.slice ad 12 c)).run Tryd.prog (wB.drewN q) = .ok (.string (strOfNums (nums (Fr24.headB k9)))) (wB.drewN q) := fun q => Bk.conv8 (by have h9 := row8_take (Bk.row8_chg HB.out HCf.out) (i := 12) h12; rw [htk] at h9; exact h9) q
        have dm : decide ((m : Int) < 12) = false := decide_eq_false (by omega)
        generalize strOfNums (nums (Fr24.headB k9)) = ST at *
        have hss : (ST.toList != ST.toList) = false := by simp
        clear ho cB HH htk hlen hkd
        go_upto_region 21 with fail
        go_quiet (fail)
        have HCf2 : Hid (Chg (fun _ => False) w0 (wB.drewN nq)) := chg_then HCf.out (chg_drewN _ _)
        clear hcv0 hcv1 hcut HCf hss dm h12
        generalize wB.drewN nq = wC at *
        have HCf : Hid (Chg (fun _ => False) w0 wC) := HCf2.out
        have HJf : Hid _ := joined_any ad none m c 0 0 bs [] wC (Bk.row8_chg HB.out HCf.out) (row8_nil _) (by omega)
        go_wp2_with fail
        refine Calls.mono HJf.out ?_
        rintro z w9 ⟨ja, jc, rfl, hj, c9⟩
        rw [Nat.add_zero, List.append_nil] at hj
        have HC9f : Hid (Chg (fun _ => False) w0 w9) := chg_then HCf.out c9
        have HRf : Hid _ := S.rfoot ja m jc bs w9 (S.keep HT.out HC9f.out) (byO_row hj).1 HD.out (byO_row hj).2.2 (by have := HM.out; omega)
        obtain ⟨RB, hRB⟩ : ∃ x, Fr24.rfootF bs = x := ⟨_, rfl⟩
        have HRB : Hid (Fr24.rfootF bs = RB) := hRB
        rw [hRB] at HRf
        obtain ⟨fk, fm, fe⟩ := RB
        clear hj c9 HJf hRB
        simp only [Nat.add_zero]
        go_wp2_with fail
        refine Calls.mono HRf.out ?_
        rintro z wA ⟨rfl, cA⟩
        have HCAf : Hid (Chg (fun _ => False) w0 wA) := chg_then HC9f.out cA
        clear cA HRf HC9f
        by_cases hef : fe = 0
        · have hq := Fr24.rfoot_is (bs := bs) HD.out (by rw [HRB.out]; exact hef)
          rw [HRB.out] at hq
          obtain ⟨k9, n9, hk9, g1, g2, g3, hkk, h12, htk⟩ := hq
          simp only [Prod.mk.injEq] at hkk
          obtain ⟨rfl, rfl, rfl⟩ := hkk
          rw [HBL.out] at h12
          have hkd := Fr24.kind_lt hk9
          have HH : Hid _ := S.foot (k9 : Int) (n9 : Int) wA (S.keep HT.out HCAf.out) (by unfold I64; omega) (by unfold I64; omega)
          rw [footF_0 hk9 g1 g2 g3] at HH
          have hlen := Fr24.footB_len k9 n9
          clear hef g1 g2 g3
          go_wp2_with fail
          refine Calls.mono HH.out ?_
          rintro z wB ⟨ov, rfl, ho, cB⟩
          obtain ⟨oa, oc, rfl⟩ := byO_form ho
          have HCf : Hid (Chg (fun _ => False) w0 wB) := chg_then HCAf.out cB
          rw [hlen]
          have hcv0 : ∀ q, (convert 22 9 (.slice oa 12 oc)).run Tryd.prog (wB.drewN q) = .ok (.string (strOfNums (nums (Fr24.footB k9 n9)))) (wB.drewN q) := fun q => Bk.conv8 (by have h9 := (byO_row (by rw [hlen] at ho; exact ho : ByO wB wA.heap.size (.slice oa 12 oc) (Fr24.footB k9 n9))).1; exact h9) q
          have hcut : ∀ ww, (Instr.sliceAt 22 (.slice ad m c) none (some (.int .i64 12)) none).run Tryd.prog ww = .ok (.slice ad 12 c) ww := fun ww => run_cutZ_hi undBy elemBy sizeBy ad m c 12 ww (by have := HM.out; omega)
          have hcv1 : ∀ q, (convert 22 9 (.slice ad 12 c)).run Tryd.prog (wB.drewN q) = .ok (.string (strOfNums (nums (Fr24.footB k9 n9)))) (wB.drewN q) := fun q => Bk.conv8 (by have h9 := row8_take (Bk.row8_chg HB.out HCf.out) (i := 12) h12; rw [htk] at h9; exact h9) q
          have dm : decide ((m : Int) < 12) = false := decide_eq_false (by omega)
          generalize strOfNums (nums (Fr24.footB k9 n9)) = ST at *
          have hss : (ST.toList != ST.toList) = false := by simp
          clear ho cB HH htk hlen hkd
          go_upto_region 26 with fail
          go_quiet (fail)
          go_wp2
          go_ret
          exact ⟨rfl, chg_then HCf.out (chg_drewN _ _)⟩
        · have y1 : (fe == 0) = false := by simpa using hef
          have y2 : (fe != 0) = true := by simpa using hef
          clear hef
          go_wp2
          go_ret
          exact ⟨rfl, HCAf.out⟩
      · have y1 : (re == 0) = false := by simpa using heh
        have y2 : (re != 0) = true := by simpa using heh
        clear heh
        have HCf : Hid (Chg (fun _ => False) w0 wA) := HCAh.out
        have HJf : Hid _ := joined_any ad none m c 0 0 bs [] wA (Bk.row8_chg HB.out HCf.out) (row8_nil _) (by omega)
        go_wp2_with fail
        refine Calls.mono HJf.out ?_
        rintro z w9 ⟨ja, jc, rfl, hj, c9⟩
        rw [Nat.add_zero, List.append_nil] at hj
        have HC9f : Hid (Chg (fun _ => False) w0 w9) := chg_then HCf.out c9
        have HRf : Hid _ := S.rfoot ja m jc bs w9 (S.keep HT.out HC9f.out) (byO_row hj).1 HD.out (byO_row hj).2.2 (by have := HM.out; omega)
        obtain ⟨RB, hRB⟩ : ∃ x, Fr24.rfootF bs = x := ⟨_, rfl⟩
        have HRB : Hid (Fr24.rfootF bs = RB) := hRB
        rw [hRB] at HRf
        obtain ⟨fk, fm, fe⟩ := RB
        clear hj c9 HJf hRB
        simp only [Nat.add_zero]
        go_wp2_with fail
        refine Calls.mono HRf.out ?_
        rintro z wA ⟨rfl, cA⟩
        have HCAf : Hid (Chg (fun _ => False) w0 wA) := chg_then HC9f.out cA
        clear cA HRf HC9f
        by_cases hef : fe = 0
        · have hq := Fr24.rfoot_is (bs := bs) HD.out (by rw [HRB.out]; exact hef)
          rw [HRB.out] at hq
          obtain ⟨k9, n9, hk9, g1, g2, g3, hkk, h12, htk⟩ := hq
          simp only [Prod.mk.injEq] at hkk
          obtain ⟨rfl, rfl, rfl⟩ := hkk
          rw [HBL.out] at h12
          have hkd := Fr24.kind_lt hk9
          have HH : Hid _ := S.foot (k9 : Int) (n9 : Int) wA (S.keep HT.out HCAf.out) (by unfold I64; omega) (by unfold I64; omega)
          rw [footF_0 hk9 g1 g2 g3] at HH
          have hlen := Fr24.footB_len k9 n9
          clear hef g1 g2 g3
          go_wp2_with fail
          refine Calls.mono HH.out ?_
          rintro z wB ⟨ov, rfl, ho, cB⟩
          obtain ⟨oa, oc, rfl⟩ := byO_form ho
          have HCf : Hid (Chg (fun _ => False) w0 wB) := chg_then HCAf.out cB
          rw [hlen]
          have hcv0 : ∀ q, (convert 22 9 (.slice oa 12 oc)).run Tryd.prog (wB.drewN q) = .ok (.string (strOfNums (nums (Fr24.footB k9 n9)))) (wB.drewN q) := fun q => Bk.conv8 (by have h9 := (byO_row (by rw [hlen] at ho; exact ho : ByO wB wA.heap.size (.slice oa 12 oc) (Fr24.footB k9 n9))).1; exact h9) q
          have hcut : ∀ ww, (Instr.sliceAt 22 (.slice ad m c) none (some (.int .i64 12)) none).run Tryd.prog ww = .ok (.slice ad 12 c) ww := fun ww => run_cutZ_hi undBy elemBy sizeBy ad m c 12 ww (by have := HM.out; omega)
          have hcv1 : ∀ q, (convert 22 9 (.slice ad 12 c)).run Tryd.prog (wB.drewN q) = .ok (.string (strOfNums (nums (Fr24.footB k9 n9)))) (wB.drewN q) := fun q => Bk.conv8 (by have h9 := row8_take (Bk.row8_chg HB.out HCf.out) (i := 12) h12; rw [htk] at h9; exact h9) q
          have dm : decide ((m : Int) < 12) = false := decide_eq_false (by omega)
          generalize strOfNums (nums (Fr24.footB k9 n9)) = ST at *
          have hss : (ST.toList != ST.toList) = false := by simp
          clear ho cB HH htk hlen hkd
          go_upto_region 26 with fail
          go_quiet (fail)
          go_wp2
          go_ret
          exact ⟨rfl, chg_then HCf.out (chg_drewN _ _)⟩
        · have y1 : (fe == 0) = false := by simpa using hef
          have y2 : (fe != 0) = true := by simpa using hef
          clear hef
          go_wp2
          go_ret
          exact ⟨rfl, HCAf.out⟩
end Go.Proofs.YtikokgngkagieaaDoor
