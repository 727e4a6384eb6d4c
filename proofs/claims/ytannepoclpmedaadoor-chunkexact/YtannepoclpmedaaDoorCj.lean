/- Every answer is the document's: the walk of ChunkExact; of no statement by itself. -/
import Derived.Test.YtannepoclpmedaaDoorCh
import Derived.Test.YtannepoclpmedaaDoorCi
namespace Go.Proofs.YtannepoclpmedaaDoor
open Go.RowKit
open St12
set_option linter.unusedVariables false
set_option linter.unusedSimpArgs false
variable {Tab : World → Prop}
set_option maxHeartbeats 16000000 in
set_option maxRecDepth 100000 in
theorem exact17_any (S : ChunkSpec Tab) (k s p lc lp pb : Int) (hI : (⟨k, s, p, lc, lp, pb⟩ : Chk).I) (ba : Option Addr) (n bc : Nat) (bs : List Nat) (m : Int) (hm : I64 m) (w0 : World) (hT : Tab w0) (hbs : Row8 w0 ba n bc (nums bs)) (hdg : Rc.Dig bs) (hn : n ≤ 140737488351232) : Calls Tryd.prog 8 #[.agg #[.int .i64 k, .int .i64 s, .int .i64 p, .int .i64 lc, .int .i64 lp, .int .i64 pb], .slice ba n bc, .int .i64 m] w0 fun e w' => e = .returned (.bool true) ∧ Chg (fun _ => False) w0 w' := by
  obtain ⟨iu, hiu, hu0, hu1, hu2⟩ := info_parts info5u
  have HT : Hid (Tab w0) := hT
  have HN : Hid (∀ x ww, Calls Tryd.prog 10 #[.int .i64 x] ww fun e w' => e = .returned (.int .i64 x) ∧ w' = ww) := num_q
  have HK : Hid (∀ ww, Chg (fun _ => False) w0 ww → Calls Tryd.prog 11 #[] ww fun e w' => e = .returned (.bool true) ∧ Chg (fun _ => False) ww w') := fun ww hc => known17_any S ww (S.keep HT.out hc)
  have HBS : Hid (Row8 w0 ba n bc (nums bs) ∧ Rc.Dig bs) := ⟨hbs, hdg⟩
  have hbl : bs.length = n := by have h9 := hbs.1; rw [nums_len] at h9; exact h9
  have HBL : Hid (bs.length = n) := hbl
  have HII : Hid ((⟨k, s, p, lc, lp, pb⟩ : Chk).I ∧ I64 m) := ⟨hI, hm⟩
  have hni : (n : Int) ≤ 140737488351232 := by omega
  have c0 := chg_one w0 (.cells #[.int .i64 k, .int .i64 s, .int .i64 p, .int .i64 lc, .int .i64 lp, .int .i64 pb] 25)
  have hb0 := heap_alloc_last w0 (.cells #[.int .i64 k, .int .i64 s, .int .i64 p, .int .i64 lc, .int .i64 lp, .int .i64 pb] 25)
  have HP : Hid _ := S.put ⟨k, s, p, lc, lp, pb⟩ (w0.alloc (.cells #[.int .i64 k, .int .i64 s, .int .i64 p, .int .i64 lc, .int .i64 lp, .int .i64 pb] 25)) (S.keep hT c0) hI
  have HC0 : Hid (Chg (fun _ => False) w0 (w0.alloc (.cells #[.int .i64 k, .int .i64 s, .int .i64 p, .int .i64 lc, .int .i64 lp, .int .i64 pb] 25))) := c0
  have HB0 : Hid ((w0.alloc (.cells #[.int .i64 k, .int .i64 s, .int .i64 p, .int .i64 lc, .int .i64 lp, .int .i64 pb] 25)).heap[w0.heap.size]? = some (.cells #[.int .i64 k, .int .i64 s, .int .i64 p, .int .i64 lc, .int .i64 lp, .int .i64 pb] 25 (0, 0))) := hb0
  obtain ⟨m0, m1, m2, m3, m4, m5⟩ := cells6 hb0
  unfold chv at HP
  simp only at HP
  have HRP : Hid (∀ ww, Calls Tryd.prog 20 #[.agg #[.int .i64 k, .int .i64 s, .int .i64 p, .int .i64 lc, .int .i64 lp, .int .i64 pb]] ww fun e w' => ∃ ov, e = .returned (.tuple #[ov, .int .i64 (Ck17.putA ⟨k, s, p, lc, lp, pb⟩).2]) ∧ ByO w' ww.heap.size ov (Ck17.putA ⟨k, s, p, lc, lp, pb⟩).1 ∧ Chg (fun _ => False) ww w') := rput17_any k s p lc lp pb hI
  obtain ⟨P, er, hPe⟩ : ∃ P er, Ck17.putA ⟨k, s, p, lc, lp, pb⟩ = (P, er) := ⟨_, _, rfl⟩
  rw [hPe] at HP HRP
  simp only at HP HRP
  clear hT hbs hdg hI c0 hb0 hPe hbl hm
  go_enter Tryd.func8, Tryd.ntmps8
  go_wp2_with fail
  refine Calls.mono HP.out ?_
  rintro z w1 ⟨ov, rfl, ho, c1⟩
  obtain ⟨oa, oc, rfl⟩ := byO_form ho
  have HO1 : Hid (ByO w1 w0.heap.size (.slice oa P.length oc) P) := owns_base ho HC0.out.size
  have HC1 : Hid (Chg (fun _ => False) w0 w1) := chg_then HC0.out c1
  obtain ⟨n0, n1, n2, n3, n4, n5⟩ := cells6 (blk_keep HB0.out c1 (fun f => f))
  clear ho c1 HP HC0 HB0 m0 m1 m2 m3 m4 m5
  go_wp2_with fail
  refine Calls.mono (HRP.out _) ?_
  rintro z w2 ⟨ov, rfl, ho, c2⟩
  obtain ⟨qa, qc, rfl⟩ := byO_form ho
  have HC2 : Hid (Chg (fun _ => False) w0 w2) := chg_then HC1.out c2
  have hcv1 := conv_own (HO1.out.new c2)
  have hcv2 := conv_own ho
  generalize strOfNums (nums P) = ST at *
  have hss : (ST.toList != ST.toList) = false := by simp
  have hee : (er != er) = false := by simp
  clear ho c2 HRP HC1 HO1 n0 n1 n2 n3 n4 n5
  go_wp2_with fail
  refine Calls.mono (HN.out _ _) ?_
  rintro z w2 ⟨rfl, rfl⟩
  have c3 := chg_one w2 (.cells #[] 5)
  have hown3 := own_empty w2 5
  have hsrc3 := (Bk.row8_chg HBS.out.1 (chg_then HC2.out c3)).src
  have hone3 := oneB bs
  have hB3 : w2.heap.size ≤ (w2.alloc (.cells #[] 5)).heap.size := c3.size
  have HC3 : Hid (Chg (fun _ => False) w2 (w2.alloc (.cells #[] 5))) := c3
  clear c3 hcv1 hcv2 hss
  go_upto_region 5 with fail
  go_wp2_with (at_builtin; refine wpList_append_moved rfl _ _ 26 rfl w2.heap.size 5 iu (.int .u8 0) 1 1 Tryd.underlying26 hiu hu0 hu1 hu2 rfl (by decide) _ 0 [] rfl ba n bc rfl ((nums bs).map (Value.int .u8)) ?h1 ?h2 ?h3 ?m1 ?m2 ?m3 ?_)
  case h1 => exact hown3
  case h2 => exact hsrc3
  case h3 => exact hone3
  case m1 => unfold maxLen; omega
  case m2 => omega
  case m3 => exact hB3
  intro v4 w4 ho4 hg4 hm4
  have c4 : Chg (fun _ => False) w2 w4 := HC3.out.grown hg4 (fun j e => .inr (by simp [Value.ownBlock] at e; omega))
  try simp only [List.nil_append, Nat.zero_add] at ho4
  obtain ⟨a4, d4, rfl⟩ := form1 ho4
  have c5 := chg_one w4 (.cells #[.int .u8 107] 5)
  have hown5 := ownsRow_keep ho4 c5 (fun _ _ f => f)
  have hsrc5 := (Bk.row8_one w4 107 5).src
  have hone5 := oneB [107]
  have hB5 : w2.heap.size ≤ (w4.alloc (.cells #[.int .u8 107] 5)).heap.size := Nat.le_trans c4.size c5.size
  have HC5 : Hid (Chg (fun _ => False) w2 (w4.alloc (.cells #[.int .u8 107] 5))) := chg_then c4 c5
  have HLT : Hid (∀ g, (Value.slice a4 n d4).ownBlock = some g → w2.heap.size ≤ g) := fun g e => (ho4.lt g e).1
  clear ho4 hg4 hm4 c4 c5 hown3 hsrc3 hone3 hB3 HC3
  go_wp2_with (at_builtin; refine wpList_append_moved rfl _ _ 26 rfl w2.heap.size 5 iu (.int .u8 0) 1 1 Tryd.underlying26 hiu hu0 hu1 hu2 rfl (by decide) _ n ((nums bs).map (Value.int .u8)) rfl (some ⟨w4.heap.size, 0, none⟩) 1 1 rfl ((nums [107]).map (Value.int .u8)) ?h1 ?h2 ?h3 ?m1 ?m2 ?m3 ?_)
  case h1 => exact hown5
  case h2 => exact hsrc5
  case h3 => exact hone5
  case m1 => unfold maxLen; omega
  case m2 => omega
  case m3 => exact hB5
  intro v6 w6 ho6 hg6 hm6
  have c6 : Chg (fun _ => False) w2 w6 := HC5.out.grown hg6 (fun j e => .inr (HLT.out j e))
  have hby := byO_app ho6
  have hg6' : ∃ g cap, v6 = .slice (some ⟨g, 0, none⟩) (n + 1) cap := by
    rcases ho6.2 with ⟨e0, e1⟩ | ⟨g, cap, cur, e0, _⟩
    · omega
    · exact ⟨g, cap, e0⟩
  obtain ⟨g6, d6, rfl⟩ := hg6'
  obtain ⟨hrow, hlen, hcap⟩ := byO_row hby
  have HC6 : Hid (Chg (fun _ => False) w0 w6) := chg_then HC2.out c6
  have HRW : Hid (Row8 w6 (some ⟨g6, 0, none⟩) n d6 (nums bs)) := by
    have h9 := row8_take hrow (i := n) (by omega)
    rw [List.take_append_of_le_length (by rw [HBL.out]; omega), List.take_of_length_le (by rw [HBL.out]; omega)] at h9
    exact h9
  have HLC : Hid (w6.cell? ⟨g6, n, none⟩ = some (.int .u8 107)) := by
    rcases hrow.2 with ⟨e1, _, _⟩ | ⟨x, e, hx⟩
    · cases e1
    · injection e with e
      subst e
      have h9 := hx n (.int .u8 107) (by
        have h8 : (bs ++ [107])[n]? = some 107 := by rw [List.getElem?_append_right (by rw [HBL.out]; omega), HBL.out]; simp
        simp only [nums, List.map_map, List.getElem?_map, h8]
        rfl)
      rw [addk, Nat.zero_add] at h9
      exact h9
  have hcut : ∀ ww, (Instr.sliceAt 26 (.slice (some ⟨g6, 0, none⟩) (n + 1) d6) none (some (.int .i64 (n : Int))) none).run Tryd.prog ww = .ok (.slice (some ⟨g6, 0, none⟩) n d6) ww := fun ww => run_cutZ_hi undBy elemBy sizeBy _ (n + 1) d6 n ww (by omega)
  have HG : Hid _ := S.get (some ⟨g6, 0, none⟩) n d6 bs w6 (S.keep HT.out HC6.out) HRW.out HBS.out.2 (by omega) (by omega)
  have HRG : Hid (∀ ww, Chg (fun _ => False) w0 ww → Calls Tryd.prog 21 #[.slice ba n bc] ww fun e w' => e = .returned (.tuple #[chv (Ck17.getA bs).1, .int .i64 ((Ck17.getA bs).2.1 : Int), .int .i64 (Ck17.getA bs).2.2]) ∧ Chg (fun _ => False) ww w') := fun ww hc => rget17_any ba n bc bs ww (Bk.row8_chg HBS.out.1 hc) HBS.out.2 (by omega)
  obtain ⟨⟨gk, gs, gp, glc, glp, gpb⟩, gn, ge, hGe⟩ : ∃ a b c, Ck17.getA bs = (a, b, c) := ⟨_, _, _, rfl⟩
  rw [hGe] at HG HRG
  unfold chv at HG HRG
  simp only at HG HRG
  clear ho6 hg6 hm6 c6 hby hrow hlen hcap hown5 hsrc5 hone5 hB5 HC5 HLT hGe HC2
  go_upto_region 6 with fail
  go_wp2_with fail
  refine Calls.mono HG.out ?_
  rintro z w7 ⟨rfl, c7⟩
  have c8 := chg_one w7 (.cells #[.int .i64 gk, .int .i64 gs, .int .i64 gp, .int .i64 glc, .int .i64 glp, .int .i64 gpb] 25)
  have b8 := heap_alloc_last w7 (.cells #[.int .i64 gk, .int .i64 gs, .int .i64 gp, .int .i64 glc, .int .i64 glp, .int .i64 gpb] 25)
  have HC8 : Hid (Chg (fun _ => False) w0 (w7.alloc (.cells #[.int .i64 gk, .int .i64 gs, .int .i64 gp, .int .i64 glc, .int .i64 glp, .int .i64 gpb] 25))) := chg_then (chg_then HC6.out c7) c8
  have HR8 : Hid (Row8 (w7.alloc (.cells #[.int .i64 gk, .int .i64 gs, .int .i64 gp, .int .i64 glc, .int .i64 glp, .int .i64 gpb] 25)) (some ⟨g6, 0, none⟩) n d6 (nums bs)) := Bk.row8_chg HRW.out (chg_then c7 c8)
  have HL8 : Hid ((w7.alloc (.cells #[.int .i64 gk, .int .i64 gs, .int .i64 gp, .int .i64 glc, .int .i64 glp, .int .i64 gpb] 25)).cell? ⟨g6, n, none⟩ = some (.int .u8 107)) := cell_chg HLC.out (chg_then c7 c8)
  have HB8 : Hid ((w7.alloc (.cells #[.int .i64 gk, .int .i64 gs, .int .i64 gp, .int .i64 glc, .int .i64 glp, .int .i64 gpb] 25)).heap[w7.heap.size]? = some (.cells #[.int .i64 gk, .int .i64 gs, .int .i64 gp, .int .i64 glc, .int .i64 glp, .int .i64 gpb] 25 (0, 0))) := b8
  clear c7 c8 b8 HG HC6 HRW HLC
  go_upto_region 7 with fail
  generalize w7.alloc (.cells #[.int .i64 gk, .int .i64 gs, .int .i64 gp, .int .i64 glc, .int .i64 glp, .int .i64 gpb] 25) = W8 at *
  generalize w7.heap.size = xb at *
  go_wp2_with fail
  refine Calls.mono (HRG.out _ HC8.out) ?_
  rintro z w9 ⟨rfl, c9⟩
  have c10 := chg_one w9 (.cells #[.int .i64 gk, .int .i64 gs, .int .i64 gp, .int .i64 glc, .int .i64 glp, .int .i64 gpb] 25)
  have b10 := heap_alloc_last w9 (.cells #[.int .i64 gk, .int .i64 gs, .int .i64 gp, .int .i64 glc, .int .i64 glp, .int .i64 gpb] 25)
  have HC10 : Hid (Chg (fun _ => False) w0 (w9.alloc (.cells #[.int .i64 gk, .int .i64 gs, .int .i64 gp, .int .i64 glc, .int .i64 glp, .int .i64 gpb] 25))) := chg_then (chg_then HC8.out c9) c10
  have hr10 := Bk.row8_chg HR8.out (chg_then c9 c10)
  have hl10 := cell_chg HL8.out (chg_then c9 c10)
  have hb10 := Bk.row8_chg HBS.out.1 HC10.out
  obtain ⟨q0, q1, q2, q3, q4, q5⟩ := cells6 (blk_keep HB8.out (chg_then c9 c10) (fun f => f))
  obtain ⟨r0, r1, r2, r3, r4, r5⟩ := cells6 b10
  clear c9 c10 b10 HRG HC8 HR8 HL8 HB8
  go_upto_region 8 with fail
  generalize w9.alloc (.cells #[.int .i64 gk, .int .i64 gs, .int .i64 gp, .int .i64 glc, .int .i64 glp, .int .i64 gpb] 25) = W10 at *
  generalize w9.heap.size = yb at *
  have hcv1 : ∀ k, (convert 26 9 (.slice (some ⟨g6, 0, none⟩) n d6)).run Tryd.prog (W10.drewN k) = .ok (.string (strOfNums (nums bs))) (W10.drewN k) := fun k => Bk.conv8 hr10 k
  have hcv2 : ∀ k, (convert 26 9 (.slice ba n bc)).run Tryd.prog (W10.drewN k) = .ok (.string (strOfNums (nums bs))) (W10.drewN k) := fun k => Bk.conv8 hb10 k
  generalize strOfNums (nums bs) = SB at *
  have hss : (SB.toList != SB.toList) = false := by simp
  have x1 : (gk != gk) = false := by simp
  have x2 : ((gn : Int) != (gn : Int)) = false := by simp
  have x3 : (ge != ge) = false := by simp
  have x4 : (n : Int) < (n : Int) + 1 := by omega
  have HDB : Hid (∀ ww, Chg (fun _ => False) w0 ww → Calls Tryd.prog 14 #[.int .i64 m] ww fun e w' => e = .returned (.tuple #[.int .i64 (Ck17.dictB m).1, .int .i64 (Ck17.dictB m).2]) ∧ Chg (fun _ => False) ww w') := fun ww hc => S.db m ww (S.keep HT.out hc) HII.out.2
  have HBD : Hid (∀ ww, Chg (fun _ => False) w0 ww → Calls Tryd.prog 13 #[.int .i64 m] ww fun e w' => e = .returned (.tuple #[.int .i64 (Ck17.byteD m).1, .int .i64 (Ck17.byteD m).2]) ∧ Chg (fun _ => False) ww w') := fun ww hc => S.bd m ww (S.keep HT.out hc) HII.out.2
  have HRD : Hid (∀ ww, Calls Tryd.prog 22 #[.int .i64 m] ww fun e w' => e = .returned (.tuple #[.int .i64 (Ck17.dictB m).1, .int .i64 (Ck17.dictB m).2]) ∧ ww = w') := rdb17_any m HII.out.2
  have HRB : Hid (∀ ww, Calls Tryd.prog 23 #[.int .i64 m] ww fun e w' => e = .returned (.tuple #[.int .i64 (Ck17.byteD m).1, .int .i64 (Ck17.byteD m).2]) ∧ ww = w') := rbd17_any m HII.out.2
  obtain ⟨dv, de, hde⟩ : ∃ a b, Ck17.dictB m = (a, b) := ⟨_, _, rfl⟩
  obtain ⟨bv, be, hbe⟩ : ∃ a b, Ck17.byteD m = (a, b) := ⟨_, _, rfl⟩
  rw [hde] at HDB HRD
  rw [hbe] at HBD HRB
  simp only at HDB HRD HBD HRB
  clear hr10 hb10 hde hbe HII
  go_quiet (first | (go_at_call 10; exact Calls.quiet_of_same (HN.out _ _)))
  have HC11 : Hid (Chg (fun _ => False) w0 (W10.drewN nq)) := chg_then HC10.out (chg_drewN W10 nq)
  clear q0 q1 q2 q3 q4 q5 r0 r1 r2 r3 r4 r5 hcv1 hcv2 hss hl10 x1 x2 x3 hcut HC10
  generalize W10.drewN nq = W11 at *
  go_wp2_with fail
  refine Calls.mono (HDB.out _ HC11.out) ?_
  rintro z w12 ⟨rfl, c12⟩
  have HC12 : Hid (Chg (fun _ => False) w0 w12) := chg_then HC11.out c12
  clear c12 HC11 HDB
  go_wp2_with fail
  refine Calls.mono (HRD.out _) ?_
  rintro z w13 ⟨rfl, rfl⟩
  have y1 : (dv != dv) = false := by simp
  have y2 : (de != de) = false := by simp
  go_wp2_with fail
  refine Calls.mono (HN.out _ _) ?_
  rintro z w14 ⟨rfl, rfl⟩
  go_wp2_with fail
  refine Calls.mono (HBD.out _ HC12.out) ?_
  rintro z w15 ⟨rfl, c15⟩
  have HC15 : Hid (Chg (fun _ => False) w0 w15) := chg_then HC12.out c15
  clear c15 HC12 HBD
  go_wp2_with fail
  refine Calls.mono (HRB.out _) ?_
  rintro z w16 ⟨rfl, rfl⟩
  have y3 : (bv == bv) = true := by simp
  have y4 : (be == be) = true := by simp
  go_wp2_with fail
  refine Calls.mono (HN.out _ _) ?_
  rintro z w17 ⟨rfl, rfl⟩
  go_wp2_with fail
  refine Calls.mono (HK.out _ HC15.out) ?_
  rintro z w18 ⟨rfl, c18⟩
  have HC18 : Hid (Chg (fun _ => False) w0 w18) := chg_then HC15.out c18
  clear c18
  go_wp2
  go_ret
  exact ⟨rfl, HC18.out⟩
end Go.Proofs.YtannepoclpmedaaDoor
