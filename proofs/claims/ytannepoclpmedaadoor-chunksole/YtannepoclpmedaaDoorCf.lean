/- Of all bytes just those are taken that Put makes: the walk of ChunkSole; of no statement by itself. -/
import Derived.Test.YtannepoclpmedaaDoorCe
import Derived.BigQuiet
import Derived.Deep.QuietTactic
namespace Go.Proofs.YtannepoclpmedaaDoor
open Go.RowKit
open St12
set_option linter.unusedVariables false
set_option linter.unusedSimpArgs false
variable {Tab : World → Prop}
theorem from_one8 (w : World) (x : Int) (t : TypeId) : (w.alloc (.cells #[.int .u8 x] t)).ownsRow w.heap.size t 1 (.slice (some ⟨w.heap.size, 0, none⟩) 1 1) 1 [.int .u8 x] :=
  World.ownsRow_lit (base := w.heap.size) (e := t) (size := 1) w #[.int .u8 x] 1 (Nat.le_refl _) (by unfold maxLen; omega) rfl
set_option maxHeartbeats 16000000 in
set_option maxRecDepth 100000 in
theorem sole17_any (S : ChunkSpec Tab) (ba : Option Addr) (n bc : Nat) (bs : List Nat) (w0 : World) (hT : Tab w0) (hbs : Row8 w0 ba n bc (nums bs)) (hdg : Rc.Dig bs) (hn : n ≤ 140737488351232) : Calls Tryd.prog 4 #[.slice ba n bc] w0 fun e w' => e = .returned (.bool true) ∧ Chg (fun _ => False) w0 w' := by
  obtain ⟨iu, hiu, hu0, hu1, hu2⟩ := info_parts info5u
  have HT : Hid (Tab w0) := hT
  have HN : Hid (∀ x ww, Calls Tryd.prog 10 #[.int .i64 x] ww fun e w' => e = .returned (.int .i64 x) ∧ w' = ww) := num_q
  have HK : Hid (∀ ww, Chg (fun _ => False) w0 ww → Calls Tryd.prog 11 #[] ww fun e w' => e = .returned (.bool true) ∧ Chg (fun _ => False) ww w') := fun ww hc => known17_any S ww (S.keep HT.out hc)
  have HBS : Hid (Row8 w0 ba n bc (nums bs) ∧ Rc.Dig bs) := ⟨hbs, hdg⟩
  have hbl : bs.length = n := by have h9 := hbs.1; rw [nums_len] at h9; exact h9
  have HBL : Hid (bs.length = n) := hbl
  have hni : (n : Int) ≤ 140737488351232 := by omega
  clear hT hbs hdg hbl
  go_enter Tryd.func4, Tryd.ntmps4
  go_wp2_with fail
  go_loopw [3] (fun v wr => ∃ f : Nat, f ≤ 256 ∧ v = .int .i64 (f : Int) ∧ Hid (Chg (fun _ => False) w0 wr)) (fun v _ => 256 - (intOf v).toNat)
  case atStart => exact ⟨0, by omega, rfl, Chg.refl _ _⟩
  case round =>
    obtain ⟨f, hf, rfl, HW⟩ := hrel
    by_cases hf6 : f < 256
    rotate_left
    · have d0 : decide ((f : Int) < 256) = false := by simp; omega
      have d0' : decide (f < 256) = false := decide_eq_false hf6
      go_wp2_with fail
      refine Calls.mono (HK.out _ HW.out) ?_
      rintro z w9 ⟨rfl, c9⟩
      have HC9 : Hid (Chg (fun _ => False) w0 w9) := chg_then HW.out c9
      clear c9
      go_wp2
      go_ret
      exact ⟨rfl, HC9.out⟩
    · have d0 : decide ((f : Int) < 256) = true := by simp; omega
      have d0' : decide (f < 256) = true := decide_eq_true hf6
      have hwr : IntKind.u8.wrap (f : Int) = (f : Int) := by simp [IntKind.wrap, IntKind.signed, IntKind.bits]; omega
      have HSO : Hid _ := Ck17.sole f bs hf6 HBS.out.2
      have c1 := chg_one wr (.cells #[.int .u8 (f : Int)] 5)
      have hown := from_one8 wr (f : Int) 5
      have hsrc := (Bk.row8_chg HBS.out.1 (chg_then HW.out c1)).src
      have hone := oneB bs
      have hB1 : wr.heap.size ≤ (wr.alloc (.cells #[.int .u8 (f : Int)] 5)).heap.size := c1.size
      have HC1 : Hid (Chg (fun _ => False) wr (wr.alloc (.cells #[.int .u8 (f : Int)] 5))) := c1
      clear c1
      go_wp2_with (at_builtin; refine wpList_append_moved rfl _ _ 26 rfl wr.heap.size 5 iu (.int .u8 0) 1 1 Tryd.underlying26 hiu hu0 hu1 hu2 rfl (by decide) _ 1 [.int .u8 (f : Int)] rfl ba n bc rfl ((nums bs).map (Value.int .u8)) ?h1 ?h2 ?h3 ?m1 ?m2 ?m3 ?_)
      case h1 => exact hown
      case h2 => exact hsrc
      case h3 => exact hone
      case m1 => unfold maxLen; omega
      case m2 => omega
      case m3 => exact hB1
      intro v2 w2 ho2 hg2 hm2
      have c2 : Chg (fun _ => False) wr w2 := HC1.out.grown hg2 (fun j e => .inr (by simp [Value.ownBlock] at e; omega))
      have hby : ByO w2 wr.heap.size v2 (f :: bs) := byO_app (a := [f]) (b := bs) ho2
      obtain ⟨a2, d2, rfl⟩ := form1 ho2
      obtain ⟨hrow, hlen, hcap⟩ := byO_row hby
      have hg2' : ∃ g, a2 = some ⟨g, 0, none⟩ := by
        rcases ho2.2 with ⟨e0, e1⟩ | ⟨g, cap, cur, e0, _⟩
        · omega
        · simp only [Value.slice.injEq] at e0
          exact ⟨g, e0.1⟩
      obtain ⟨g2, rfl⟩ := hg2'
      have HC2 : Hid (Chg (fun _ => False) w0 w2) := chg_then HW.out c2
      have HBY : Hid (ByO w2 wr.heap.size (.slice (some ⟨g2, 0, none⟩) (1 + n) d2) (f :: bs)) := hby
      have HG : Hid _ := S.get (some ⟨g2, 0, none⟩) (1 + n) d2 (f :: bs) w2 (S.keep HT.out HC2.out) hrow (fun x hx => (List.mem_cons.1 hx).elim (fun e => by rw [e]; exact hf6) (HBS.out.2 x)) hcap (by omega)
      have HCP : Hid (1 + n ≤ d2) := hcap
      obtain ⟨G, gn, ge, hGe⟩ : ∃ a b c, Ck17.getA (f :: bs) = (a, b, c) := ⟨_, _, _, rfl⟩
      rw [hGe] at HG HSO
      simp only at HG HSO
      have hGI : G.I := by have h9 := Ck17.get_I (f :: bs) (fun x hx => (List.mem_cons.1 hx).elim (fun e => by rw [e]; exact hf6) (HBS.out.2 x)); rw [hGe] at h9; exact h9
      obtain ⟨gk, gs, gp, glc, glp, gpb⟩ := G
      have HGI0 : Hid ((⟨gk, gs, gp, glc, glp, gpb⟩ : Chk).I) := hGI
      clear hGI
      unfold chv at HG
      simp only at HG
      clear ho2 hg2 hm2 c2 hby hrow hlen hcap hown hsrc hone hB1 HC1 hGe
      go_upto_region 5 with fail
      go_wp2_with fail
      refine Calls.mono HG.out ?_
      rintro z w3 ⟨rfl, c3⟩
      have c4 := chg_one w3 (.cells #[.int .i64 gk, .int .i64 gs, .int .i64 gp, .int .i64 glc, .int .i64 glp, .int .i64 gpb] 25)
      have b4 := heap_alloc_last w3 (.cells #[.int .i64 gk, .int .i64 gs, .int .i64 gp, .int .i64 glc, .int .i64 glp, .int .i64 gpb] 25)
      have HC4 : Hid (Chg (fun _ => False) w0 (w3.alloc (.cells #[.int .i64 gk, .int .i64 gs, .int .i64 gp, .int .i64 glc, .int .i64 glp, .int .i64 gpb] 25))) := chg_then (chg_then HC2.out c3) c4
      have HBY4 : Hid (ByO (w3.alloc (.cells #[.int .i64 gk, .int .i64 gs, .int .i64 gp, .int .i64 glc, .int .i64 glp, .int .i64 gpb] 25)) wr.heap.size (.slice (some ⟨g2, 0, none⟩) (1 + n) d2) (f :: bs)) := HBY.out.new (chg_then c3 c4)
      obtain ⟨m0, m1, m2, m3, m4, m5⟩ := cells6 b4
      clear c3 c4 b4 HG HC2 HBY
      go_upto_region 6 with fail
      generalize w3.alloc (.cells #[.int .i64 gk, .int .i64 gs, .int .i64 gp, .int .i64 glc, .int .i64 glp, .int .i64 gpb] 25) = W4 at *
      generalize w3.heap.size = cb at *
      have HGI : Hid ((⟨gk, gs, gp, glc, glp, gpb⟩ : Chk).I) := HGI0.out
      clear hwr HW HGI0
      by_cases r0 : f = 0
      · have e0 : ((f : Int) == 0) = true := by simp [r0]
        have hwant : Ck17.wantN f = 1 := by unfold Ck17.wantN; rw [if_pos r0]
        rcases HSO.out with h0 | h1 | h2
        · clear HSO
          obtain ⟨rfl, _, hgn, hwl, hput⟩ := h0
          rw [hwant] at hgn hwl hput
          subst hgn
          have HPQ : Hid _ := S.put ⟨gk, gs, gp, glc, glp, gpb⟩ W4 (S.keep HT.out HC4.out) HGI.out
          rw [hput] at HPQ
          unfold chv at HPQ
          simp only at HPQ
          have hwl' : 1 ≤ 1 + n := by simp only [List.length_cons] at hwl; have := HBL.out; omega
          have hwli : (1 : Int) ≤ (1 : Int) + (n : Int) := by omega
          clear hput hwl hwant
          go_wp2_with fail
          refine Calls.mono (HN.out _ _) ?_
          rintro z w5 ⟨rfl, rfl⟩
          go_wp2_with fail
          refine Calls.mono HPQ.out ?_
          rintro z w6 ⟨ov, rfl, ho, c6⟩
          obtain ⟨oa, oc, rfl⟩ := byO_form ho
          have hpl : ((f :: bs).take 1).length = 1 := by simp only [List.length_take, List.length_cons]; have := HBL.out; omega
          rw [hpl]
          have HC6 : Hid (Chg (fun _ => False) w0 w6) := chg_then HC4.out c6
          have hrP := (byO_row (by rw [hpl] at ho; exact ho : ByO w6 w5.heap.size (.slice oa 1 oc) ((f :: bs).take 1))).1
          have hrL := row8_take (byO_row (HBY4.out.new c6)).1 (i := 1) hwl'
          have hcv1 : ∀ k, (convert 26 9 (.slice oa 1 oc)).run Tryd.prog (w6.drewN k) = .ok (.string (strOfNums (nums ((f :: bs).take 1)))) (w6.drewN k) := fun k => Bk.conv8 hrP k
          have hcv2 : ∀ k, (convert 26 9 (.slice (some ⟨g2, 0, none⟩) 1 d2)).run Tryd.prog (w6.drewN k) = .ok (.string (strOfNums (nums ((f :: bs).take 1)))) (w6.drewN k) := fun k => Bk.conv8 hrL k
          generalize strOfNums (nums ((f :: bs).take 1)) = ST at *
          have hss : (ST.toList != ST.toList) = false := by simp
          have hcut : ∀ ww, (Instr.sliceAt 26 (.slice (some ⟨g2, 0, none⟩) (1 + n) d2) none (some (.int .i64 1)) none).run Tryd.prog ww = .ok (.slice (some ⟨g2, 0, none⟩) 1 d2) ww := fun ww => run_cutZ_hi undBy elemBy sizeBy _ (1 + n) d2 1 ww (by have := HCP.out; omega)
          have hgt : decide ((1 : Int) + (n : Int) < (1 : Int)) = false := decide_eq_false (by omega)
          have hgt' : decide (1 + n < 1) = false := decide_eq_false (by omega)
          clear ho c6 hrP hrL hpl HPQ m0 m1 m2 m3 m4 m5 HGI hwl' hwli HBY4
          go_upto_region 20 with fail
          go_quiet (first | (go_at_call 10; exact Calls.quiet_of_same (HN.out _ _)))
          go_wp2_with fail
          exact ⟨⟨f + 1, by omega, by go_num, chg_then HC6.out (chg_drewN w6 nq)⟩, by simp [intOf]; omega⟩
        · clear HSO
          obtain ⟨rfl, _, rfl, hlt⟩ := h1
          have hlt' : 1 + n < 1 := by rw [hwant] at hlt; simp only [List.length_cons] at hlt; have := HBL.out; omega
          have hge : decide ((1 : Int) ≤ (1 : Int) + (n : Int)) = false := decide_eq_false (by omega)
          have hge' : decide (1 ≤ 1 + n) = false := decide_eq_false (by omega)
          clear hlt hlt' hwant HBY4 HGI m0 m1 m2 m3 m4 m5
          go_wp2_with fail
          refine Calls.mono (HN.out _ _) ?_
          rintro z w5 ⟨rfl, rfl⟩
          go_wp2_with fail
          exact ⟨⟨f + 1, by omega, by go_num, HC4.out⟩, by simp [intOf]; omega⟩
        · exfalso
          omega
      
      · have e0 : ((f : Int) == 0) = false := by simp; omega
        by_cases r3 : f < 3
        · have e3 : decide ((f : Int) < 3) = true := decide_eq_true (by omega)
          have e3n : decide (f < 3) = true := decide_eq_true (by omega)
          have hwant : Ck17.wantN f = 3 := by unfold Ck17.wantN; rw [if_neg r0, if_pos r3]
          rcases HSO.out with h0 | h1 | h2
          · clear HSO
            obtain ⟨rfl, _, hgn, hwl, hput⟩ := h0
            rw [hwant] at hgn hwl hput
            subst hgn
            have HPQ : Hid _ := S.put ⟨gk, gs, gp, glc, glp, gpb⟩ W4 (S.keep HT.out HC4.out) HGI.out
            rw [hput] at HPQ
            unfold chv at HPQ
            simp only at HPQ
            have hwl' : 3 ≤ 1 + n := by simp only [List.length_cons] at hwl; have := HBL.out; omega
            have hwli : (3 : Int) ≤ (1 : Int) + (n : Int) := by omega
            clear hput hwl hwant
            go_wp2_with fail
            refine Calls.mono (HN.out _ _) ?_
            rintro z w5 ⟨rfl, rfl⟩
            go_wp2_with fail
            refine Calls.mono HPQ.out ?_
            rintro z w6 ⟨ov, rfl, ho, c6⟩
            obtain ⟨oa, oc, rfl⟩ := byO_form ho
            have hpl : ((f :: bs).take 3).length = 3 := by simp only [List.length_take, List.length_cons]; have := HBL.out; omega
            rw [hpl]
            have HC6 : Hid (Chg (fun _ => False) w0 w6) := chg_then HC4.out c6
            have hrP := (byO_row (by rw [hpl] at ho; exact ho : ByO w6 w5.heap.size (.slice oa 3 oc) ((f :: bs).take 3))).1
            have hrL := row8_take (byO_row (HBY4.out.new c6)).1 (i := 3) hwl'
            have hcv1 : ∀ k, (convert 26 9 (.slice oa 3 oc)).run Tryd.prog (w6.drewN k) = .ok (.string (strOfNums (nums ((f :: bs).take 3)))) (w6.drewN k) := fun k => Bk.conv8 hrP k
            have hcv2 : ∀ k, (convert 26 9 (.slice (some ⟨g2, 0, none⟩) 3 d2)).run Tryd.prog (w6.drewN k) = .ok (.string (strOfNums (nums ((f :: bs).take 3)))) (w6.drewN k) := fun k => Bk.conv8 hrL k
            generalize strOfNums (nums ((f :: bs).take 3)) = ST at *
            have hss : (ST.toList != ST.toList) = false := by simp
            have hcut : ∀ ww, (Instr.sliceAt 26 (.slice (some ⟨g2, 0, none⟩) (1 + n) d2) none (some (.int .i64 3)) none).run Tryd.prog ww = .ok (.slice (some ⟨g2, 0, none⟩) 3 d2) ww := fun ww => run_cutZ_hi undBy elemBy sizeBy _ (1 + n) d2 3 ww (by have := HCP.out; omega)
            have hgt : decide ((1 : Int) + (n : Int) < (3 : Int)) = false := decide_eq_false (by omega)
            have hgt' : decide (1 + n < 3) = false := decide_eq_false (by omega)
            clear ho c6 hrP hrL hpl HPQ m0 m1 m2 m3 m4 m5 HGI hwl' hwli HBY4
            go_upto_region 20 with fail
            go_quiet (first | (go_at_call 10; exact Calls.quiet_of_same (HN.out _ _)))
            go_wp2_with fail
            exact ⟨⟨f + 1, by omega, by go_num, chg_then HC6.out (chg_drewN w6 nq)⟩, by simp [intOf]; omega⟩
          · clear HSO
            obtain ⟨rfl, _, rfl, hlt⟩ := h1
            have hlt' : 1 + n < 3 := by rw [hwant] at hlt; simp only [List.length_cons] at hlt; have := HBL.out; omega
            have hge : decide ((3 : Int) ≤ (1 : Int) + (n : Int)) = false := decide_eq_false (by omega)
            have hge' : decide (3 ≤ 1 + n) = false := decide_eq_false (by omega)
            clear hlt hlt' hwant HBY4 HGI m0 m1 m2 m3 m4 m5
            go_wp2_with fail
            refine Calls.mono (HN.out _ _) ?_
            rintro z w5 ⟨rfl, rfl⟩
            go_wp2_with fail
            exact ⟨⟨f + 1, by omega, by go_num, HC4.out⟩, by simp [intOf]; omega⟩
          · exfalso
            omega
      
        · by_cases r8 : f < 128
          · have e3 : decide ((f : Int) < 3) = false := decide_eq_false (by omega)
            have e3n : decide (f < 3) = false := decide_eq_false (by omega)
            have e8 : decide ((f : Int) < 128) = true := decide_eq_true (by omega)
            have e8n : decide (f < 128) = true := decide_eq_true (by omega)
            have hh : ge = 2 ∧ gn = 0 := by
              rcases HSO.out with h | h | h
              · omega
              · omega
              · exact ⟨h.1, h.2.1⟩
            obtain ⟨rfl, rfl⟩ := hh
            clear HSO HBY4 HGI m0 m1 m2 m3 m4 m5
            go_wp2_with fail
            refine Calls.mono (HN.out _ _) ?_
            rintro z w5 ⟨rfl, rfl⟩
            go_wp2_with fail
            exact ⟨⟨f + 1, by omega, by go_num, HC4.out⟩, by simp [intOf]; omega⟩
      
          · by_cases r9 : f < 192
            · have e3 : decide ((f : Int) < 3) = false := decide_eq_false (by omega)
              have e3n : decide (f < 3) = false := decide_eq_false (by omega)
              have e8 : decide ((f : Int) < 128) = false := decide_eq_false (by omega)
              have e8n : decide (f < 128) = false := decide_eq_false (by omega)
              have e9 : decide ((f : Int) < 192) = true := decide_eq_true (by omega)
              have e9n : decide (f < 192) = true := decide_eq_true (by omega)
              have hwant : Ck17.wantN f = 5 := by unfold Ck17.wantN; rw [if_neg r0, if_neg r3, if_neg r8, if_pos r9]
              rcases HSO.out with h0 | h1 | h2
              · clear HSO
                obtain ⟨rfl, _, hgn, hwl, hput⟩ := h0
                rw [hwant] at hgn hwl hput
                subst hgn
                have HPQ : Hid _ := S.put ⟨gk, gs, gp, glc, glp, gpb⟩ W4 (S.keep HT.out HC4.out) HGI.out
                rw [hput] at HPQ
                unfold chv at HPQ
                simp only at HPQ
                have hwl' : 5 ≤ 1 + n := by simp only [List.length_cons] at hwl; have := HBL.out; omega
                have hwli : (5 : Int) ≤ (1 : Int) + (n : Int) := by omega
                clear hput hwl hwant
                go_wp2_with fail
                refine Calls.mono (HN.out _ _) ?_
                rintro z w5 ⟨rfl, rfl⟩
                go_wp2_with fail
                refine Calls.mono HPQ.out ?_
                rintro z w6 ⟨ov, rfl, ho, c6⟩
                obtain ⟨oa, oc, rfl⟩ := byO_form ho
                have hpl : ((f :: bs).take 5).length = 5 := by simp only [List.length_take, List.length_cons]; have := HBL.out; omega
                rw [hpl]
                have HC6 : Hid (Chg (fun _ => False) w0 w6) := chg_then HC4.out c6
                have hrP := (byO_row (by rw [hpl] at ho; exact ho : ByO w6 w5.heap.size (.slice oa 5 oc) ((f :: bs).take 5))).1
                have hrL := row8_take (byO_row (HBY4.out.new c6)).1 (i := 5) hwl'
                have hcv1 : ∀ k, (convert 26 9 (.slice oa 5 oc)).run Tryd.prog (w6.drewN k) = .ok (.string (strOfNums (nums ((f :: bs).take 5)))) (w6.drewN k) := fun k => Bk.conv8 hrP k
                have hcv2 : ∀ k, (convert 26 9 (.slice (some ⟨g2, 0, none⟩) 5 d2)).run Tryd.prog (w6.drewN k) = .ok (.string (strOfNums (nums ((f :: bs).take 5)))) (w6.drewN k) := fun k => Bk.conv8 hrL k
                generalize strOfNums (nums ((f :: bs).take 5)) = ST at *
                have hss : (ST.toList != ST.toList) = false := by simp
                have hcut : ∀ ww, (Instr.sliceAt 26 (.slice (some ⟨g2, 0, none⟩) (1 + n) d2) none (some (.int .i64 5)) none).run Tryd.prog ww = .ok (.slice (some ⟨g2, 0, none⟩) 5 d2) ww := fun ww => run_cutZ_hi undBy elemBy sizeBy _ (1 + n) d2 5 ww (by have := HCP.out; omega)
                have hgt : decide ((1 : Int) + (n : Int) < (5 : Int)) = false := decide_eq_false (by omega)
                have hgt' : decide (1 + n < 5) = false := decide_eq_false (by omega)
                clear ho c6 hrP hrL hpl HPQ m0 m1 m2 m3 m4 m5 HGI hwl' hwli HBY4
                go_upto_region 20 with fail
                go_quiet (first | (go_at_call 10; exact Calls.quiet_of_same (HN.out _ _)))
                go_wp2_with fail
                exact ⟨⟨f + 1, by omega, by go_num, chg_then HC6.out (chg_drewN w6 nq)⟩, by simp [intOf]; omega⟩
              · clear HSO
                obtain ⟨rfl, _, rfl, hlt⟩ := h1
                have hlt' : 1 + n < 5 := by rw [hwant] at hlt; simp only [List.length_cons] at hlt; have := HBL.out; omega
                have hge : decide ((5 : Int) ≤ (1 : Int) + (n : Int)) = false := decide_eq_false (by omega)
                have hge' : decide (5 ≤ 1 + n) = false := decide_eq_false (by omega)
                clear hlt hlt' hwant HBY4 HGI m0 m1 m2 m3 m4 m5
                go_wp2_with fail
                refine Calls.mono (HN.out _ _) ?_
                rintro z w5 ⟨rfl, rfl⟩
                go_wp2_with fail
                exact ⟨⟨f + 1, by omega, by go_num, HC4.out⟩, by simp [intOf]; omega⟩
              · exfalso
                omega
      
            · have e3 : decide ((f : Int) < 3) = false := decide_eq_false (by omega)
              have e3n : decide (f < 3) = false := decide_eq_false (by omega)
              have e8 : decide ((f : Int) < 128) = false := decide_eq_false (by omega)
              have e8n : decide (f < 128) = false := decide_eq_false (by omega)
              have e9 : decide ((f : Int) < 192) = false := decide_eq_false (by omega)
              have e9n : decide (f < 192) = false := decide_eq_false (by omega)
              have hwant : Ck17.wantN f = 6 := by unfold Ck17.wantN; rw [if_neg r0, if_neg r3, if_neg r8, if_neg r9]
              rcases HSO.out with h0 | h1 | h2
              · clear HSO
                obtain ⟨rfl, _, hgn, hwl, hput⟩ := h0
                rw [hwant] at hgn hwl hput
                subst hgn
                have HPQ : Hid _ := S.put ⟨gk, gs, gp, glc, glp, gpb⟩ W4 (S.keep HT.out HC4.out) HGI.out
                rw [hput] at HPQ
                unfold chv at HPQ
                simp only at HPQ
                have hwl' : 6 ≤ 1 + n := by simp only [List.length_cons] at hwl; have := HBL.out; omega
                have hwli : (6 : Int) ≤ (1 : Int) + (n : Int) := by omega
                clear hput hwl hwant
                go_wp2_with fail
                refine Calls.mono (HN.out _ _) ?_
                rintro z w5 ⟨rfl, rfl⟩
                go_wp2_with fail
                refine Calls.mono HPQ.out ?_
                rintro z w6 ⟨ov, rfl, ho, c6⟩
                obtain ⟨oa, oc, rfl⟩ := byO_form ho
                have hpl : ((f :: bs).take 6).length = 6 := by simp only [List.length_take, List.length_cons]; have := HBL.out; omega
                rw [hpl]
                have HC6 : Hid (Chg (fun _ => False) w0 w6) := chg_then HC4.out c6
                have hrP := (byO_row (by rw [hpl] at ho; exact ho : ByO w6 w5.heap.size (.slice oa 6 oc) ((f :: bs).take 6))).1
                have hrL := row8_take (byO_row (HBY4.out.new c6)).1 (i := 6) hwl'
                have hcv1 : ∀ k, (convert 26 9 (.slice oa 6 oc)).run Tryd.prog (w6.drewN k) = .ok (.string (strOfNums (nums ((f :: bs).take 6)))) (w6.drewN k) := fun k => Bk.conv8 hrP k
                have hcv2 : ∀ k, (convert 26 9 (.slice (some ⟨g2, 0, none⟩) 6 d2)).run Tryd.prog (w6.drewN k) = .ok (.string (strOfNums (nums ((f :: bs).take 6)))) (w6.drewN k) := fun k => Bk.conv8 hrL k
                generalize strOfNums (nums ((f :: bs).take 6)) = ST at *
                have hss : (ST.toList != ST.toList) = false := by simp
                have hcut : ∀ ww, (Instr.sliceAt 26 (.slice (some ⟨g2, 0, none⟩) (1 + n) d2) none (some (.int .i64 6)) none).run Tryd.prog ww = .ok (.slice (some ⟨g2, 0, none⟩) 6 d2) ww := fun ww => run_cutZ_hi undBy elemBy sizeBy _ (1 + n) d2 6 ww (by have := HCP.out; omega)
                have hgt : decide ((1 : Int) + (n : Int) < (6 : Int)) = false := decide_eq_false (by omega)
                have hgt' : decide (1 + n < 6) = false := decide_eq_false (by omega)
                clear ho c6 hrP hrL hpl HPQ m0 m1 m2 m3 m4 m5 HGI hwl' hwli HBY4
                go_upto_region 20 with fail
                go_quiet (first | (go_at_call 10; exact Calls.quiet_of_same (HN.out _ _)))
                go_wp2_with fail
                exact ⟨⟨f + 1, by omega, by go_num, chg_then HC6.out (chg_drewN w6 nq)⟩, by simp [intOf]; omega⟩
              · clear HSO
                obtain ⟨rfl, _, rfl, hlt⟩ := h1
                have hlt' : 1 + n < 6 := by rw [hwant] at hlt; simp only [List.length_cons] at hlt; have := HBL.out; omega
                have hge : decide ((6 : Int) ≤ (1 : Int) + (n : Int)) = false := decide_eq_false (by omega)
                have hge' : decide (6 ≤ 1 + n) = false := decide_eq_false (by omega)
                clear hlt hlt' hwant HBY4 HGI m0 m1 m2 m3 m4 m5
                go_wp2_with fail
                refine Calls.mono (HN.out _ _) ?_
                rintro z w5 ⟨rfl, rfl⟩
                go_wp2_with fail
                exact ⟨⟨f + 1, by omega, by go_num, HC4.out⟩, by simp [intOf]; omega⟩
              · clear HSO
                obtain ⟨rfl, rfl, hh⟩ := h2
                obtain ⟨_, hl6, hno⟩ := hh.resolve_left (by omega)
                have hl6' : 6 ≤ 1 + n := by simp only [List.length_cons] at hl6; have := HBL.out; omega
                have hlt6 : decide ((1 : Int) + (n : Int) < 6) = false := decide_eq_false (by omega)
                have hlt6' : decide (1 + n < 6) = false := decide_eq_false (by omega)
                have hix : (5 : Int) < (1 : Int) + (n : Int) := by omega
                obtain ⟨x5, hx5, hcell⟩ : ∃ x5 : Nat, Ck17.at_ (f :: bs) 5 = x5 ∧ W4.cell? ⟨g2, 5, none⟩ = some (.int .u8 (x5 : Int)) := by
                  obtain ⟨hr, hln, _⟩ := byO_row HBY4.out
                  refine ⟨_, rfl, ?_⟩
                  rcases hr.2 with ⟨e1, _, _⟩ | ⟨x, e, hx⟩
                  · cases e1
                  · injection e with e
                    subst e
                    have hlt5 : 5 < (f :: bs).length := by omega
                    have h9 : (f :: bs)[5]? = some (Ck17.at_ (f :: bs) 5) := by unfold Ck17.at_; rw [List.getD_eq_getElem?_getD, List.getElem?_eq_getElem hlt5]; rfl
                    have := hx 5 (.int .u8 ((Ck17.at_ (f :: bs) 5 : Nat) : Int)) (by simp only [nums, List.map_map, List.getElem?_map, h9]; rfl)
                    rw [addk, Nat.zero_add] at this
                    exact this
                have hx9 : (x5 : Int) ≤ 255 := by
                  have h9 : x5 < 256 := by
                    rw [← hx5]
                    unfold Ck17.at_
                    rw [List.getD_eq_getElem?_getD]
                    cases e : (f :: bs)[5]? with
                    | none => simp
                    | some y =>
                      rcases List.mem_cons.1 (List.mem_of_getElem? e) with h | h
                      · rw [h]; exact hf6
                      · exact HBS.out.2 y h
                  omega
                rw [hx5] at hno
                clear hx5 hl6 hl6' hwant HBY4 HGI m0 m1 m2 m3 m4 m5 hh
                go_wp2_with fail
                refine Calls.mono (HN.out _ _) ?_
                rintro z w5 ⟨rfl, rfl⟩
                by_cases hq : x5 < 225
                · have hq1 : decide ((x5 : Int) < 225) = true := decide_eq_true (by omega)
                  have hq1' : decide (x5 < 225) = true := decide_eq_true hq
                  obtain ⟨a1, ha1⟩ : ∃ a : Nat, x5 % 45 / 9 = a := ⟨_, rfl⟩
                  obtain ⟨a2, ha2⟩ : ∃ a : Nat, x5 % 9 = a := ⟨_, rfl⟩
                  obtain ⟨a0, ha0⟩ : ∃ a : Nat, x5 % 45 = a := ⟨_, rfl⟩
                  have t0 : (x5 : Int).tmod 45 = (a0 : Int) := by rw [← ha0]; rfl
                  have t1 : (a0 : Int).tdiv 9 = (a1 : Int) := by rw [← ha1, ha0]; rfl
                  have t2 : (x5 : Int).tmod 9 = (a2 : Int) := by rw [← ha2]; rfl
                  have b1 : (a1 : Int) ≤ 4 := by omega
                  have b2 : (a2 : Int) ≤ 8 := by omega
                  have b0 : (a0 : Int) ≤ 44 := by omega
                  have t3 : IntKind.u8.wrap ((a1 : Int) + (a2 : Int)) = (a1 : Int) + (a2 : Int) := by simp [IntKind.wrap, IntKind.signed, IntKind.bits]; omega
                  have t4 : decide ((a1 : Int) + (a2 : Int) ≤ 4) = false := decide_eq_false (by omega)
                  have t4' : decide (a1 + a2 ≤ 4) = false := decide_eq_false (by omega)
                  clear ha0 ha1 ha2 hno hq
                  go_upto_region 26 with fail
                  go_quiet (fail)
                  go_wp2_with fail
                  exact ⟨⟨f + 1, by omega, by go_num, chg_then HC4.out (chg_drewN _ nq)⟩, by simp [intOf]; omega⟩
                · have hq1 : decide ((x5 : Int) < 225) = false := decide_eq_false (by omega)
                  have hq1' : decide (x5 < 225) = false := decide_eq_false hq
                  clear hno hq
                  go_upto_region 26 with fail
                  go_quiet (fail)
                  go_wp2_with fail
                  exact ⟨⟨f + 1, by omega, by go_num, chg_then HC4.out (chg_drewN _ nq)⟩, by simp [intOf]; omega⟩
end Go.Proofs.YtannepoclpmedaaDoor
