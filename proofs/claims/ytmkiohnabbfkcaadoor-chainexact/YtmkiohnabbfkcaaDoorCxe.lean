/- The walk of ChainExact; of no statement by itself. -/
import Derived.Test.YtmkiohnabbfkcaaDoorCrk
import Derived.Test.YtmkiohnabbfkcaaDoorCso
import Derived.Test.YtmkiohnabbfkcaaDoorCrw
namespace Go.Proofs.YtmkiohnabbfkcaaDoor
theorem getN_lt (bs : List Nat) : (getN bs).1 < 18446744073709551616 := by
  obtain ⟨L, h0, h1⟩ := getN_is bs
  by_cases e : (getN bs).2.2 = 0
  · have hv := h0 e
    have hb := Vint.wt_bd ((nums bs).take ((getN bs).2.1 : Int).toNat)
    have hp := getN_pos bs
    have hl : ((nums bs).take ((getN bs).2.1 : Int).toNat).length ≤ 9 := by rw [List.length_take]; omega
    have h9 := Vint.pow_le9 _ hl
    omega
  · have := h1 e
    omega
theorem getF_id (bs : List Nat) : (Cn20.getF bs).1.id < 18446744073709551616 := by
  unfold Cn20.getF
  split
  · show (0 : Nat) < _; decide
  · split
    · show (0 : Nat) < _; decide
    · split
      · show (0 : Nat) < _; decide
      · exact getN_lt bs
theorem getF_len (bs : List Nat) : (Cn20.getF bs).1.ps.length ≤ bs.length := by
  unfold Cn20.getF
  split
  · exact Nat.zero_le _
  · split
    · exact Nat.zero_le _
    · split
      · exact Nat.zero_le _
      · simp only [List.length_take, List.length_drop]
        omega
open Go.RowKit
open St12
set_option linter.unusedVariables false
set_option linter.unusedSimpArgs false
variable {Tab : World → Prop}
set_option maxHeartbeats 32000000 in
set_option maxRecDepth 100000 in
theorem exact20_any (S : ChainSpec Tab) (ad : Option Addr) (n c : Nat) (l : List FlV) (ba : Option Addr) (m bc : Nat) (bs : List Nat) (ch de lc lp pb di bl mo : Int) (w0 : World) (hT : Tab w0) (hL : FlL w0 ad l) (hl : l.length = n) (hn : n ≤ 4398046510976) (hb : Row8 w0 ba m bc (nums bs)) (hd : Rc.Dig bs) (hbc : m ≤ bc) (hm : m ≤ 140737488351232) (hI : (⟨ch, de, lc, lp, pb, di, bl, mo⟩ : Cfg).I) : Calls Tryd.prog 3 #[.slice ad n c, .slice ba m bc, .agg #[.int .i64 ch, .int .i64 de, .int .i64 lc, .int .i64 lp, .int .i64 pb, .int .i64 di, .int .i64 bl, .int .i64 mo]] w0 fun e w' => e = .returned (.bool true) ∧ Chg (fun _ => False) w0 w' := by
  obtain ⟨iu, hiu, hu0, hu1, hu2⟩ := info_parts info5u
  have HT : Hid (Tab w0) := hT
  have HL : Hid (FlL w0 ad l) := hL
  have HLL : Hid (l.length = n) := hl
  have HB : Hid (Row8 w0 ba m bc (nums bs)) := hb
  have HD : Hid (Rc.Dig bs) := hd
  have hbl : bs.length = m := by have h9 := hb.1; rw [nums_len] at h9; exact h9
  have HBL : Hid (bs.length = m) := hbl
  have HI : Hid ((⟨ch, de, lc, lp, pb, di, bl, mo⟩ : Cfg).I) := hI
  have HN : Hid (∀ x ww, Calls Tryd.prog 8 #[.int .i64 x] ww fun e w' => e = .returned (.int .i64 x) ∧ w' = ww) := num20_q
  have HK : Hid (∀ ww, Chg (fun _ => False) w0 ww → Calls Tryd.prog 19 #[] ww fun e w' => e = .returned (.bool true) ∧ Chg (fun _ => False) ww w') := fun ww hc => known20_any S ww (S.keep HT.out hc)
  have hni : (n : Int) ≤ 4398046510976 := by omega
  have hmi : (m : Int) ≤ 140737488351232 := by omega
  have cA := chg_one w0 (.cells #[.int .i64 ch, .int .i64 de, .int .i64 lc, .int .i64 lp, .int .i64 pb, .int .i64 di, .int .i64 bl, .int .i64 mo] 27)
  have bA := heap_alloc_last w0 (.cells #[.int .i64 ch, .int .i64 de, .int .i64 lc, .int .i64 lp, .int .i64 pb, .int .i64 di, .int .i64 bl, .int .i64 mo] 27)
  have HCA : Hid (Chg (fun _ => False) w0 (w0.alloc (.cells #[.int .i64 ch, .int .i64 de, .int .i64 lc, .int .i64 lp, .int .i64 pb, .int .i64 di, .int .i64 bl, .int .i64 mo] 27))) := cA
  have HBA : Hid ((w0.alloc (.cells #[.int .i64 ch, .int .i64 de, .int .i64 lc, .int .i64 lp, .int .i64 pb, .int .i64 di, .int .i64 bl, .int .i64 mo] 27)).heap[w0.heap.size]? = some (.cells #[.int .i64 ch, .int .i64 de, .int .i64 lc, .int .i64 lp, .int .i64 pb, .int .i64 di, .int .i64 bl, .int .i64 mo] 27 (0, 0))) := bA
  have HRM : Hid _ := room_any ad n c l (w0.alloc (.cells #[.int .i64 ch, .int .i64 de, .int .i64 lc, .int .i64 lp, .int .i64 pb, .int .i64 di, .int .i64 bl, .int .i64 mo] 27)) (hL.new cA) hl hn
  clear hT hL hl hb hd hbl hI cA bA
  go_enter Tryd.func3, Tryd.ntmps3
  go_wp2_with fail
  refine Calls.mono HRM.out ?_
  rintro z w1 ⟨ra, rc, fv, q, rfl, hro, hql, hq⟩
  have HRO : Hid (Ro (w0.alloc (.cells #[.int .i64 ch, .int .i64 de, .int .i64 lc, .int .i64 lp, .int .i64 pb, .int .i64 di, .int .i64 bl, .int .i64 mo] 27)) w1 (w0.alloc (.cells #[.int .i64 ch, .int .i64 de, .int .i64 lc, .int .i64 lp, .int .i64 pb, .int .i64 di, .int .i64 bl, .int .i64 mo] 27)).heap.size ra rc fv q) := hro
  have HQL : Hid (q.length = n) := hql
  have HQ : Hid (q.map FlV.f = l.map FlV.f) := hq
  have HC1 : Hid (Chg (fun _ => False) w0 w1) := chg_then HCA.out hro.chg
  have HB1 : Hid (w1.heap[w0.heap.size]? = some (.cells #[.int .i64 ch, .int .i64 de, .int .i64 lc, .int .i64 lp, .int .i64 pb, .int .i64 di, .int .i64 bl, .int .i64 mo] 27 (0, 0))) := blk_keep HBA.out hro.chg (fun f => f)
  have hrc : n ≤ rc := by have := hro.at; rw [hql] at this; obtain ⟨_, _, h, _⟩ := this; omega
  have HQF : Hid (FlL w1 ra q) := hro.L
  clear hro hql hq HRM HCA HBA
  go_wp2_with fail
  go_loopw [32] (fun i wr => ∃ k : Nat, k ≤ n ∧ i = .int .i64 (k : Int) ∧ Hid (Chg (fun _ => False) w1 wr)) (fun i _ => n - (intOf i).toNat)
  case atStart => exact ⟨0, by omega, rfl, Chg.refl _ _⟩
  case round =>
    obtain ⟨k, hk, rfl, HC⟩ := hrel
    have hki : (k : Int) ≤ (n : Int) := by omega
    by_cases hlt : k < n
    · have d1 : decide ((k : Int) < (n : Int)) = true := decide_eq_true (by omega)
      have d1' : decide (k < n) = true := decide_eq_true hlt
      obtain ⟨x, b, off, hx, hok, rfl, x0, x1⟩ := HL.out.at (k := k) (by rw [HLL.out]; exact hlt)
      obtain ⟨y, hy, hid, hbs⟩ := map_f_at HQ.out hx
      obtain ⟨hyo, b', off', rfl, y0, y1⟩ := HQF.out k y hy
      obtain ⟨id, xa, xn, xc, xs⟩ := x
      obtain ⟨yi, ya, yn, yc, ys⟩ := y
      simp only at hid hbs x0 x1 y0 y1
      subst hid hbs
      have hcw := chg_then HC1.out HC.out
      replace x0 := cell_chg x0 hcw
      replace x1 := cell_chg x1 hcw
      replace y0 := cell_chg y0 HC.out
      replace y1 := cell_chg y1 HC.out
      obtain ⟨v, hv⟩ : ∃ v : Int, (yi : Int) = v := ⟨_, rfl⟩
      have HXO : Hid ((⟨yi, xa, xn, xc, ys⟩ : FlV).ok wr) := hok.new hcw
      have HP : Hid _ := S.put yi ya yn yc ys wr (S.keep HT.out hcw) (hyo.new HC.out)
      have HRP : Hid (∀ ww, Chg (fun _ => False) wr ww → Calls Tryd.prog 7 #[.agg #[.int .u64 (yi : Int), .slice xa xn xc]] ww fun e w' => ∃ ov, e = .returned (.tuple #[ov, .int .i64 (Cn20.putF ⟨yi, ys⟩).2]) ∧ ByO w' ww.heap.size ov (Cn20.putF ⟨yi, ys⟩).1 ∧ Chg (fun _ => False) ww w') := fun ww hc => rput20_any yi xa xn xc ys ww (HXO.out.new hc)
      rw [hv] at x0 y0 HP HRP
      obtain ⟨P, er, hPe⟩ : ∃ P er, Cn20.putF ⟨yi, ys⟩ = (P, er) := ⟨_, _, rfl⟩
      rw [hPe] at HP HRP
      simp only at HP HRP
      have hxl : (xn : Int) ≤ 140737488351232 := by have := hok.lim; simp only at this; omega
      have hyl : (yn : Int) ≤ 140737488351232 := by have := hyo.lim; simp only at this; omega
      clear hok hyo hx hy hcw hPe hv
      go_wp2_with fail
      refine Calls.mono HP.out ?_
      rintro z w2 ⟨ov, rfl, ho, c2⟩
      obtain ⟨oa, oc, rfl⟩ := byO_form ho
      have HO2 : Hid (ByO w2 wr.heap.size (.slice oa P.length oc) P) := ho
      replace x0 := cell_chg x0 c2
      replace x1 := cell_chg x1 c2
      have HC2 : Hid (Chg (fun _ => False) w1 w2) := chg_then HC.out c2
      have HRP2 : Hid _ := HRP.out w2 c2
      clear ho c2 y0 y1 HP HRP HXO HC
      go_wp2_with fail
      refine Calls.mono HRP2.out ?_
      rintro z w3 ⟨ov, rfl, ho, c3⟩
      obtain ⟨pa, pc, rfl⟩ := byO_form ho
      have HC3 : Hid (Chg (fun _ => False) w1 w3) := chg_then HC2.out c3
      have hcv1 := conv_own (HO2.out.new c3)
      have hcv2 := conv_own ho
      generalize strOfNums (nums P) = ST at *
      have hss : (ST.toList != ST.toList) = false := by simp
      have hee : (er != er) = false := by simp
      clear ho c3 x0 x1 HRP2 HC2 HO2
      go_wp2_with fail
      refine Calls.mono (HN.out _ _) ?_
      rintro z w4 ⟨rfl, rfl⟩
      clear hcv1 hcv2 hss
      go_wp2
      go_roundw
      case rel => exact ⟨k + 1, by omega, by go_num, HC3⟩
      case measure => simp [intOf]; omega
    · obtain rfl : k = n := by omega
      have d1 : decide ((k : Int) < (k : Int)) = false := decide_eq_false (by omega)
      have HCR : Hid (Chg (fun _ => False) w0 wr) := chg_then HC1.out HC.out
      have HRD : Hid _ := S.read ra k rc q wr (S.keep HT.out HCR.out) (HQF.out.new HC.out) HQL.out hrc (by omega)
      have HRR : Hid (∀ ww, Chg (fun _ => False) w0 ww → Calls Tryd.prog 10 #[.slice ad k c] ww fun e w' => e = .returned (.tuple #[.int .i64 (Cn20.readF (l.map FlV.f)).1, .int .i64 (Cn20.readF (l.map FlV.f)).2.1, .int .i64 (Cn20.readF (l.map FlV.f)).2.2]) ∧ Chg (fun _ => False) ww w') := fun ww hc => rread20_any ad k c l ww (HL.out.new hc) HLL.out (by omega)
      have HKP : Hid (∀ ww, Chg (fun _ => False) w1 ww → Calls Tryd.prog 11 #[.pointer (some ⟨(w0.alloc (.cells #[.int .i64 ch, .int .i64 de, .int .i64 lc, .int .i64 lp, .int .i64 pb, .int .i64 di, .int .i64 bl, .int .i64 mo] 27)).heap.size, 0, none⟩), .slice ad k c] ww fun e w' => e = .returned (.bool true) ∧ Chg (fun _ => False) ww w') := fun ww hc => kept_any _ ww _ ra rc fv q (HRO.out.new hc) ad k c l (HL.out.new (chg_then HC1.out hc)) HLL.out HQ.out hn
      rw [World.size_alloc] at HKP
      obtain ⟨rd, rt, re, hrf⟩ : ∃ a b e, Cn20.readF (l.map FlV.f) = (a, b, e) := ⟨_, _, _, rfl⟩
      rw [HQ.out, hrf] at HRD
      rw [hrf] at HRR
      simp only at HRD HRR
      clear hrf
      go_wp2_with fail
      refine Calls.mono HRD.out ?_
      rintro z w2 ⟨rfl, c2⟩
      have HC2 : Hid (Chg (fun _ => False) w1 w2) := chg_then HC.out c2
      clear c2 HRD HC HCR
      go_wp2_with fail
      refine Calls.mono (HRR.out w2 (chg_then HC1.out HC2.out)) ?_
      rintro z w3 ⟨rfl, c3⟩
      have HC3 : Hid (Chg (fun _ => False) w1 w3) := chg_then HC2.out c3
      have x1 : (rd != rd) = false := by simp
      have x2 : (rt != rt) = false := by simp
      have x3 : (re != re) = false := by simp
      clear c3 HRR HC2
      go_wp2_with fail
      refine Calls.mono (HN.out _ _) ?_
      rintro z w4 ⟨rfl, rfl⟩
      go_wp2_with fail
      refine Calls.mono (HKP.out _ HC3.out) ?_
      rintro z w5 ⟨rfl, c5⟩
      have HC5 : Hid (Chg (fun _ => False) w0 w5) := chg_then HC1.out (chg_then HC3.out c5)
      have HB5 : Hid (w5.heap[w0.heap.size]? = some (.cells #[.int .i64 ch, .int .i64 de, .int .i64 lc, .int .i64 lp, .int .i64 pb, .int .i64 di, .int .i64 bl, .int .i64 mo] 27 (0, 0))) := blk_keep HB1.out (chg_then HC3.out c5) (fun f => f)
      clear c5 x1 x2 x3 HKP HC3 HC1 HB1 HRO HQF
      go_upto_region 14 with fail
      have c6 := chg_one w5 (.cells #[] 5)
      have hown3 := own_empty w5 5
      have hsrc3 := (Bk.row8_chg HB.out (chg_then HC5.out c6)).src
      have hone3 := oneB bs
      have hB3 : w5.heap.size ≤ (w5.alloc (.cells #[] 5)).heap.size := c6.size
      have HC6 : Hid (Chg (fun _ => False) w5 (w5.alloc (.cells #[] 5))) := c6
      clear c6
      go_wp2_with (at_builtin; refine wpList_append_moved rfl _ _ 23 rfl w5.heap.size 5 iu (.int .u8 0) 1 1 Tryd.underlying23 hiu hu0 hu1 hu2 rfl (by decide) _ 0 [] rfl ba m bc rfl ((nums bs).map (Value.int .u8)) ?h1 ?h2 ?h3 ?m1 ?m2 ?m3 ?_)
      case h1 => exact hown3
      case h2 => exact hsrc3
      case h3 => exact hone3
      case m1 => unfold maxLen; omega
      case m2 => omega
      case m3 => exact hB3
      intro v7 w7 ho7 hg7 hm7
      have c7 : Chg (fun _ => False) w5 w7 := HC6.out.grown hg7 (fun j e => .inr (by simp [Value.ownBlock] at e; omega))
      try simp only [List.nil_append, Nat.zero_add] at ho7
      obtain ⟨a7, d7, rfl⟩ := form1 ho7
      have c8 := chg_one w7 (.cells #[.int .u8 34] 5)
      have hown5 := ownsRow_keep ho7 c8 (fun _ _ f => f)
      have hsrc5 := (Bk.row8_one w7 34 5).src
      have hone5 := oneB [34]
      have hB5 : w5.heap.size ≤ (w7.alloc (.cells #[.int .u8 34] 5)).heap.size := Nat.le_trans c7.size c8.size
      have HC8 : Hid (Chg (fun _ => False) w5 (w7.alloc (.cells #[.int .u8 34] 5))) := chg_then c7 c8
      have HLT : Hid (∀ g, (Value.slice a7 m d7).ownBlock = some g → w5.heap.size ≤ g) := fun g e => (ho7.lt g e).1
      clear ho7 hg7 hm7 c7 c8 hown3 hsrc3 hone3 hB3 HC6
      go_wp2_with (at_builtin; refine wpList_append_moved rfl _ _ 23 rfl w5.heap.size 5 iu (.int .u8 0) 1 1 Tryd.underlying23 hiu hu0 hu1 hu2 rfl (by decide) _ m ((nums bs).map (Value.int .u8)) rfl (some ⟨w7.heap.size, 0, none⟩) 1 1 rfl ((nums [34]).map (Value.int .u8)) ?k1 ?k2 ?k3 ?n1 ?n2 ?n3 ?_)
      case k1 => exact hown5
      case k2 => exact hsrc5
      case k3 => exact hone5
      case n1 => unfold maxLen; omega
      case n2 => omega
      case n3 => exact hB5
      intro v9 w9 ho9 hg9 hm9
      have c9 : Chg (fun _ => False) w5 w9 := HC8.out.grown hg9 (fun j e => .inr (HLT.out j e))
      have hby := byO_app ho9
      have hg6' : ∃ g cap, v9 = .slice (some ⟨g, 0, none⟩) (m + 1) cap := by
        rcases ho9.2 with ⟨e0, e1⟩ | ⟨g, cap, cur, e0, _⟩
        · omega
        · exact ⟨g, cap, e0⟩
      obtain ⟨g6, d6, rfl⟩ := hg6'
      obtain ⟨hrow, hlen, hcap⟩ := byO_row hby
      have HC9 : Hid (Chg (fun _ => False) w0 w9) := chg_then HC5.out c9
      have HB9 : Hid (w9.heap[w0.heap.size]? = some (.cells #[.int .i64 ch, .int .i64 de, .int .i64 lc, .int .i64 lp, .int .i64 pb, .int .i64 di, .int .i64 bl, .int .i64 mo] 27 (0, 0))) := blk_keep HB5.out c9 (fun f => f)
      have HRW : Hid (Row8 w9 (some ⟨g6, 0, none⟩) m d6 (nums bs)) := by
        have h9 := row8_take hrow (i := m) (by omega)
        rw [List.take_append_of_le_length (by rw [HBL.out]; omega), List.take_of_length_le (by rw [HBL.out]; omega)] at h9
        exact h9
      have HLC : Hid (w9.cell? ⟨g6, m, none⟩ = some (.int .u8 34)) := by
        rcases hrow.2 with ⟨e1, _, _⟩ | ⟨x, e, hx⟩
        · cases e1
        · injection e with e
          subst e
          have h9 := hx m (.int .u8 34) (by
            have h8 : (bs ++ [34])[m]? = some 34 := by rw [List.getElem?_append_right (by rw [HBL.out]; omega), HBL.out]; simp
            simp only [nums, List.map_map, List.getElem?_map, h8]
            rfl)
          rw [addk, Nat.zero_add] at h9
          exact h9
      have hcut : ∀ ww, (Instr.sliceAt 23 (.slice (some ⟨g6, 0, none⟩) (m + 1) d6) none (some (.int .i64 (m : Int))) none).run Tryd.prog ww = .ok (.slice (some ⟨g6, 0, none⟩) m d6) ww := fun ww => run_cutZ_hi undBy elemBy sizeBy _ (m + 1) d6 m ww (by omega)
      have HG : Hid _ := S.get (some ⟨g6, 0, none⟩) m d6 bs w9 (S.keep HT.out HC9.out) HRW.out HD.out (by omega) (by omega)
      have HRG : Hid (∀ ww, Chg (fun _ => False) w0 ww → Calls Tryd.prog 13 #[.slice ba m bc] ww fun e w' => ∃ pv, e = .returned (.tuple #[.agg #[.int .u64 ((Cn20.getF bs).1.id : Int), pv], .int .i64 ((Cn20.getF bs).2.1 : Int), .int .i64 (Cn20.getF bs).2.2]) ∧ ByO w' ww.heap.size pv (Cn20.getF bs).1.ps ∧ Chg (fun _ => False) ww w') := fun ww hc => rget20_any ba m bc bs ww (Bk.row8_chg HB.out hc) HD.out hbc hm
      have hgd := Cn20.get_dig HD.out
      have hpos := (Cn20.get_pos bs).1
      have hid := getF_id bs
      have hpl := getF_len bs
      rw [HBL.out] at hpos hpl
      obtain ⟨⟨gi, gp⟩, gn, ge, hGe⟩ : ∃ a b c, Cn20.getF bs = (a, b, c) := ⟨_, _, _, rfl⟩
      rw [hGe] at HG HRG hgd hpos hid hpl
      simp only at HG HRG hgd hpos hid hpl
      obtain ⟨y, hy⟩ : ∃ y : Int, (gi : Int) = y := ⟨_, rfl⟩
      have HY : Hid ((gi : Int) = y) := hy
      rw [hy] at HG HRG
      obtain ⟨pl, hpll⟩ : ∃ pl, gp.length = pl := ⟨_, rfl⟩
      have HPL : Hid (gp.length = pl) := hpll
      have HGD : Hid (Rc.Dig gp) := hgd
      have HID : Hid (gi < 18446744073709551616) := hid
      rw [hpll] at hpl
      clear ho9 hg9 hm9 c9 hby hrow hlen hcap hown5 hsrc5 hone5 hB5 HC8 HLT hGe hgd hid hy hpll HC5 HB5
      go_upto_region 15 with fail
      go_wp2_with fail
      refine Calls.mono HG.out ?_
      rintro z w10 ⟨pv, rfl, hp10, c10⟩
      obtain ⟨pa, pc, rfl⟩ := byO_form hp10
      rw [HPL.out] at hp10 ⊢
      have cq := chg_one w10 (.cells #[.int .u64 y, .slice pa pl pc] 36)
      have bq := heap_alloc_last w10 (.cells #[.int .u64 y, .slice pa pl pc] 36)
      have HC11 : Hid (Chg (fun _ => False) w9 (w10.alloc (.cells #[.int .u64 y, .slice pa pl pc] 36))) := chg_then c10 cq
      have HO11 : Hid ((⟨gi, pa, pl, pc, gp⟩ : FlV).ok (w10.alloc (.cells #[.int .u64 y, .slice pa pl pc] 36))) := (ok_of_by hp10 HID.out HGD.out (by omega)).new cq
      have g0 : (w10.alloc (.cells #[.int .u64 y, .slice pa pl pc] 36)).cell? ⟨w10.heap.size, 0, none⟩ = some (.int .u64 y) := cell0 bq
      have g1 : (w10.alloc (.cells #[.int .u64 y, .slice pa pl pc] 36)).cell? ⟨w10.heap.size, 1, none⟩ = some (.slice pa pl pc) := cell1 bq
      clear hp10 c10 cq bq HG
      go_upto_region 16 with fail
      generalize w10.alloc (.cells #[.int .u64 y, .slice pa pl pc] 36) = W11 at *
      generalize w10.heap.size = xb at *
      go_wp2_with fail
      refine Calls.mono (HRG.out W11 (chg_then HC9.out HC11.out)) ?_
      rintro z w12 ⟨pv, rfl, hp12, c12⟩
      obtain ⟨qa, qc, rfl⟩ := byO_form hp12
      rw [HPL.out] at hp12 ⊢
      have cq := chg_one w12 (.cells #[.int .u64 y, .slice qa pl qc] 36)
      have bq := heap_alloc_last w12 (.cells #[.int .u64 y, .slice qa pl qc] 36)
      have hc13 := chg_then c12 cq
      have HC13 : Hid (Chg (fun _ => False) w9 (w12.alloc (.cells #[.int .u64 y, .slice qa pl qc] 36))) := chg_then HC11.out hc13
      have HO13 : Hid ((⟨gi, pa, pl, pc, gp⟩ : FlV).ok (w12.alloc (.cells #[.int .u64 y, .slice qa pl qc] 36))) := HO11.out.new hc13
      have HP13 : Hid ((⟨gi, qa, pl, qc, gp⟩ : FlV).ok (w12.alloc (.cells #[.int .u64 y, .slice qa pl qc] 36))) := (ok_of_by hp12 HID.out HGD.out (by omega)).new cq
      replace g0 := cell_chg g0 hc13
      replace g1 := cell_chg g1 hc13
      have f0 : (w12.alloc (.cells #[.int .u64 y, .slice qa pl qc] 36)).cell? ⟨w12.heap.size, 0, none⟩ = some (.int .u64 y) := cell0 bq
      have f1 : (w12.alloc (.cells #[.int .u64 y, .slice qa pl qc] 36)).cell? ⟨w12.heap.size, 1, none⟩ = some (.slice qa pl qc) := cell1 bq
      clear hp12 c12 cq bq hc13 HRG HC11 HO11
      go_upto_region 17 with fail
      generalize w12.alloc (.cells #[.int .u64 y, .slice qa pl qc] 36) = W13 at *
      generalize w12.heap.size = yb at *
      have x1 : ((gn : Int) != (gn : Int)) = false := by simp
      have x2 : (ge != ge) = false := by simp
      have x3 : (m : Int) < (m : Int) + 1 := by omega
      have hrA := Bk.row8_chg HRW.out HC13.out
      have hrB := Bk.row8_chg HB.out (chg_then HC9.out HC13.out)
      have hlA := cell_chg HLC.out HC13.out
      obtain ⟨ST, hST⟩ : ∃ ST, strOfNums (nums bs) = ST := ⟨_, rfl⟩
      have hss : (ST.toList != ST.toList) = false := by simp
      refine wp_region_free (mk := fun u => #[_, _, _, _, _, _, _, _, _, _, _, _, _, _, _, _, _, _, _, _, _, _, _, _, _, _, _, _, _, _, _, _, _, _, _, _, _, _, _, _, _, _, _, _, _, _, _, _, _, _, _, _, _, _, _, _, _, _, _, _, _, _, _, _, _, _, _, _, _, _, _, _, _, _, _, _, _, _, _, _, _, _, _, _, _, _, _, _, _, _, _, _, _, _, _, _, _, _, _, _, _, _, _, _, _, _, _, _, _, _, _, _, _, _, _, u 115, u 116, u 117, u 118, u 119, u 120, u 121, u 122, u 123, u 124, u 125, u 126, u 127, u 128, u 129, u 130, u 131, u 132, u 133, u 134, u 135, u 136, u 137, u 138, u 139, u 140, u 141, u 142, u 143, u 144, u 145, u 146, u 147, u 148, u 149, _, _, _, _, _, _, _, _, _, _, _, _, _, _, _, _, _, _, _, _, _, _, _, _, _, _, _, _, _, _]) (F := fun slot vv ww => (look (((115 : Nat), Fact.val (.agg #[.int .u64 y, .slice pa pl pc])) :: ((116 : Nat), Fact.is (fun vv ww => ∃ g, vv = .slice (some ⟨g, 0, none⟩) 1 1 ∧ FlL ww (some ⟨g, 0, none⟩) [⟨gi, pa, pl, pc, gp⟩])) :: ((117 : Nat), Fact.val (.agg #[.int .u64 y, .slice qa pl qc])) :: ((118 : Nat), Fact.is (fun vv ww => ∃ g, vv = .slice (some ⟨g, 0, none⟩) 1 1 ∧ FlL ww (some ⟨g, 0, none⟩) [⟨gi, qa, pl, qc, gp⟩])) :: ((119 : Nat), Fact.val (.bool true)) :: ((120 : Nat), Fact.val (.bool false)) :: ((121 : Nat), Fact.val (.bool false)) :: ((122 : Nat), Fact.val (.int .i64 (gn : Int))) :: ((123 : Nat), Fact.val (.int .i64 (gn : Int))) :: ((124 : Nat), Fact.val (.bool false)) :: ((125 : Nat), Fact.val (.bool false)) :: ((126 : Nat), Fact.val (.bool false)) :: ((127 : Nat), Fact.val (.int .i64 ge)) :: ((128 : Nat), Fact.val (.int .i64 ge)) :: ((129 : Nat), Fact.val (.int .i64 ge)) :: ((130 : Nat), Fact.val (.bool false)) :: ((131 : Nat), Fact.val (.bool false)) :: ((132 : Nat), Fact.val (.bool false)) :: ((133 : Nat), Fact.val (.slice (some ⟨g6, 0, none⟩) (m + 1) d6)) :: ((134 : Nat), Fact.val (.slice ba m bc)) :: ((135 : Nat), Fact.val (.int .i64 (m : Int))) :: ((136 : Nat), Fact.val (.slice (some ⟨g6, 0, none⟩) m d6)) :: ((137 : Nat), Fact.val (.string ST)) :: ((138 : Nat), Fact.val (.slice ba m bc)) :: ((139 : Nat), Fact.val (.string ST)) :: ((140 : Nat), Fact.val (.bool false)) :: ((141 : Nat), Fact.val (.bool false)) :: ((142 : Nat), Fact.val (.bool false)) :: ((143 : Nat), Fact.val (.slice (some ⟨g6, 0, none⟩) (m + 1) d6)) :: ((144 : Nat), Fact.val (.slice ba m bc)) :: ((145 : Nat), Fact.val (.int .i64 (m : Int))) :: ((146 : Nat), Fact.val (.pointer (some ⟨g6, m, none⟩))) :: ((147 : Nat), Fact.val (.int .u8 34)) :: ((148 : Nat), Fact.val (.bool false)) :: ((149 : Nat), Fact.val (.bool false)) :: []) slot).holds vv ww) (fun _ => undef) rfl (by kernel_rfl) (by kernel_rfl) ?_ (fun _ v w w' hc h => Fact.stays _ v w w' hc h) ?_ ?_
      · repeat (refine ⟨⟨_, rfl, fun _ _ => rfl⟩, ?_⟩)
        exact trivial
      · refine ⟨?_, ?_, ?_, ?_, ?_, ?_, ?_, ?_, ?_, ?_, ?_, ?_, ?_, ?_, ?_, ?_, ?_, ?_, ?_, ?_, ?_, ?_, ?_, ?_, ?_, ?_, ?_, ?_, ?_, ?_, ?_, ?_, ?_, ?_, ?_, trivial⟩
        · intro u w_ hc hd K hK -- 115
          clear hd
          have k0 := cell_chg g0 hc
          have k1 := cell_chg g1 hc
          go_simp
          exact hK.out _ w_ (Chg.refl _ _) rfl
        · intro u w_ hc hd K hK -- 116
          have h115 : (Fact.val (.agg #[.int .u64 y, .slice pa pl pc])).holds (u 115) w_ := hd.get 0 (by kernel_rfl)
          simp only [Fact.holds] at h115
          clear hd
          simp only [h115] at hK ⊢
          have hl1 := flL_one (HO13.out.new hc) (o := .cells #[.int .u64 y, .slice pa pl pc] 36) (by rw [HY.out])
          have hcn := chg_one w_ (.cells #[.int .u64 y, .slice pa pl pc] 36)
          go_simp
          exact hK.out _ _ hcn ⟨_, ⟨_, rfl, hl1⟩, Chg.refl _ _⟩
        · intro u w_ hc hd K hK -- 117
          clear hd
          have k0 := cell_chg f0 hc
          have k1 := cell_chg f1 hc
          go_simp
          exact hK.out _ w_ (Chg.refl _ _) rfl
        · intro u w_ hc hd K hK -- 118
          have h117 : (Fact.val (.agg #[.int .u64 y, .slice qa pl qc])).holds (u 117) w_ := hd.get 2 (by kernel_rfl)
          simp only [Fact.holds] at h117
          clear hd
          simp only [h117] at hK ⊢
          have hl1 := flL_one (HP13.out.new hc) (o := .cells #[.int .u64 y, .slice qa pl qc] 36) (by rw [HY.out])
          have hcn := chg_one w_ (.cells #[.int .u64 y, .slice qa pl qc] 36)
          go_simp
          exact hK.out _ _ hcn ⟨_, ⟨_, rfl, hl1⟩, Chg.refl _ _⟩
        · intro u w_ hc hd K hK -- 119
          have h116 : (Fact.is (fun vv ww => ∃ g, vv = .slice (some ⟨g, 0, none⟩) 1 1 ∧ FlL ww (some ⟨g, 0, none⟩) [⟨gi, pa, pl, pc, gp⟩])).holds (u 116) w_ := hd.get 1 (by kernel_rfl)
          obtain ⟨q116, h116, p116⟩ := h116
          have h118 : (Fact.is (fun vv ww => ∃ g, vv = .slice (some ⟨g, 0, none⟩) 1 1 ∧ FlL ww (some ⟨g, 0, none⟩) [⟨gi, qa, pl, qc, gp⟩])).holds (u 118) w_ := hd.get 3 (by kernel_rfl)
          obtain ⟨q118, h118, p118⟩ := h118
          clear hd
          obtain ⟨ga, rfl_a, la⟩ := h116
          obtain ⟨gb, rfl_b, lb⟩ := h118
          simp only [rfl_a, rfl_b] at hK ⊢
          have HSM : Hid _ := same20_any w_ (some ⟨ga, 0, none⟩) (some ⟨gb, 0, none⟩) 1 1 1 [⟨gi, pa, pl, pc, gp⟩] [⟨gi, qa, pl, qc, gp⟩] (la.new p116) (lb.new p118) rfl rfl (by decide)
          go_simp
          go_at_call 14
          refine Calls.mono HSM.out ?_
          rintro z w2 ⟨rfl, c2⟩
          exact hK.out _ w2 c2 rfl
        · intro u w_ hc hd K hK -- 120
          have h119 : (Fact.val (.bool true)).holds (u 119) w_ := hd.get 4 (by kernel_rfl)
          simp only [Fact.holds] at h119
          clear hd
          simp only [h119] at hK
          go_simp
          exact hK.out (.bool false) w_ (Chg.refl _ _) rfl
        · intro u w_ hc hd K hK -- 121
          have h120 : (Fact.val (.bool false)).holds (u 120) w_ := hd.get 5 (by kernel_rfl)
          simp only [Fact.holds] at h120
          clear hd
          simp only [h120] at hK
          go_simp
          exact hK.out (.bool false) w_ (Chg.refl _ _) rfl
        · intro u w_ hc hd K hK -- 122
          have h121 : (Fact.val (.bool false)).holds (u 121) w_ := hd.get 6 (by kernel_rfl)
          simp only [Fact.holds] at h121
          clear hd
          simp only [h121] at hK
          go_simp
          exact hK.out (.int .i64 (gn : Int)) w_ (Chg.refl _ _) rfl
        · intro u w_ hc hd K hK -- 123
          have h121 : (Fact.val (.bool false)).holds (u 121) w_ := hd.get 6 (by kernel_rfl)
          simp only [Fact.holds] at h121
          clear hd
          simp only [h121] at hK
          go_simp
          exact hK.out (.int .i64 (gn : Int)) w_ (Chg.refl _ _) rfl
        · intro u w_ hc hd K hK -- 124
          have h122 : (Fact.val (.int .i64 (gn : Int))).holds (u 122) w_ := hd.get 7 (by kernel_rfl)
          simp only [Fact.holds] at h122
          have h123 : (Fact.val (.int .i64 (gn : Int))).holds (u 123) w_ := hd.get 8 (by kernel_rfl)
          simp only [Fact.holds] at h123
          have h121 : (Fact.val (.bool false)).holds (u 121) w_ := hd.get 6 (by kernel_rfl)
          simp only [Fact.holds] at h121
          clear hd
          simp only [h121, h122, h123] at hK
          go_simp
          exact hK.out (.bool false) w_ (Chg.refl _ _) rfl
        · intro u w_ hc hd K hK -- 125
          have h121 : (Fact.val (.bool false)).holds (u 121) w_ := hd.get 6 (by kernel_rfl)
          simp only [Fact.holds] at h121
          have h124 : (Fact.val (.bool false)).holds (u 124) w_ := hd.get 9 (by kernel_rfl)
          simp only [Fact.holds] at h124
          clear hd
          simp only [h121, h124] at hK
          go_simp
          exact hK.out (.bool false) w_ (Chg.refl _ _) rfl
        · intro u w_ hc hd K hK -- 126
          have h125 : (Fact.val (.bool false)).holds (u 125) w_ := hd.get 10 (by kernel_rfl)
          simp only [Fact.holds] at h125
          clear hd
          simp only [h125] at hK
          go_simp
          exact hK.out (.bool false) w_ (Chg.refl _ _) rfl
        · intro u w_ hc hd K hK -- 127
          have h126 : (Fact.val (.bool false)).holds (u 126) w_ := hd.get 11 (by kernel_rfl)
          simp only [Fact.holds] at h126
          clear hd
          simp only [h126] at hK
          go_simp
          exact hK.out (.int .i64 ge) w_ (Chg.refl _ _) rfl
        · intro u w_ hc hd K hK -- 128
          have h127 : (Fact.val (.int .i64 ge)).holds (u 127) w_ := hd.get 12 (by kernel_rfl)
          simp only [Fact.holds] at h127
          have h126 : (Fact.val (.bool false)).holds (u 126) w_ := hd.get 11 (by kernel_rfl)
          simp only [Fact.holds] at h126
          clear hd
          simp only [h126, h127] at hK
          go_simp
          go_at_call 8
          refine (HN.out _ _).mono ?_
          rintro z w2 ⟨rfl, rfl⟩
          exact hK.out _ _ (Chg.refl _ _) rfl
        · intro u w_ hc hd K hK -- 129
          have h126 : (Fact.val (.bool false)).holds (u 126) w_ := hd.get 11 (by kernel_rfl)
          simp only [Fact.holds] at h126
          clear hd
          simp only [h126] at hK
          go_simp
          exact hK.out (.int .i64 ge) w_ (Chg.refl _ _) rfl
        · intro u w_ hc hd K hK -- 130
          have h128 : (Fact.val (.int .i64 ge)).holds (u 128) w_ := hd.get 13 (by kernel_rfl)
          simp only [Fact.holds] at h128
          have h129 : (Fact.val (.int .i64 ge)).holds (u 129) w_ := hd.get 14 (by kernel_rfl)
          simp only [Fact.holds] at h129
          have h126 : (Fact.val (.bool false)).holds (u 126) w_ := hd.get 11 (by kernel_rfl)
          simp only [Fact.holds] at h126
          clear hd
          simp only [h126, h128, h129] at hK
          go_simp
          exact hK.out (.bool false) w_ (Chg.refl _ _) rfl
        · intro u w_ hc hd K hK -- 131
          have h126 : (Fact.val (.bool false)).holds (u 126) w_ := hd.get 11 (by kernel_rfl)
          simp only [Fact.holds] at h126
          have h130 : (Fact.val (.bool false)).holds (u 130) w_ := hd.get 15 (by kernel_rfl)
          simp only [Fact.holds] at h130
          clear hd
          simp only [h126, h130] at hK
          go_simp
          exact hK.out (.bool false) w_ (Chg.refl _ _) rfl
        · intro u w_ hc hd K hK -- 132
          have h131 : (Fact.val (.bool false)).holds (u 131) w_ := hd.get 16 (by kernel_rfl)
          simp only [Fact.holds] at h131
          clear hd
          simp only [h131] at hK
          go_simp
          exact hK.out (.bool false) w_ (Chg.refl _ _) rfl
        · intro u w_ hc hd K hK -- 133
          have h132 : (Fact.val (.bool false)).holds (u 132) w_ := hd.get 17 (by kernel_rfl)
          simp only [Fact.holds] at h132
          clear hd
          simp only [h132] at hK
          go_simp
          exact hK.out (.slice (some ⟨g6, 0, none⟩) (m + 1) d6) w_ (Chg.refl _ _) rfl
        · intro u w_ hc hd K hK -- 134
          have h132 : (Fact.val (.bool false)).holds (u 132) w_ := hd.get 17 (by kernel_rfl)
          simp only [Fact.holds] at h132
          clear hd
          simp only [h132] at hK
          go_simp
          exact hK.out (.slice ba m bc) w_ (Chg.refl _ _) rfl
        · intro u w_ hc hd K hK -- 135
          have h134 : (Fact.val (.slice ba m bc)).holds (u 134) w_ := hd.get 19 (by kernel_rfl)
          simp only [Fact.holds] at h134
          have h132 : (Fact.val (.bool false)).holds (u 132) w_ := hd.get 17 (by kernel_rfl)
          simp only [Fact.holds] at h132
          clear hd
          simp only [h132, h134] at hK
          go_simp
          exact hK.out (.int .i64 (m : Int)) w_ (Chg.refl _ _) rfl
        · intro u w_ hc hd K hK -- 136
          have h133 : (Fact.val (.slice (some ⟨g6, 0, none⟩) (m + 1) d6)).holds (u 133) w_ := hd.get 18 (by kernel_rfl)
          simp only [Fact.holds] at h133
          have h135 : (Fact.val (.int .i64 (m : Int))).holds (u 135) w_ := hd.get 20 (by kernel_rfl)
          simp only [Fact.holds] at h135
          have h132 : (Fact.val (.bool false)).holds (u 132) w_ := hd.get 17 (by kernel_rfl)
          simp only [Fact.holds] at h132
          clear hd
          simp only [h132, h133, h135] at hK
          have k0 := hcut w_
          go_simp
          exact hK.out _ w_ (Chg.refl _ _) rfl
        · intro u w_ hc hd K hK -- 137
          have h136 : (Fact.val (.slice (some ⟨g6, 0, none⟩) m d6)).holds (u 136) w_ := hd.get 21 (by kernel_rfl)
          simp only [Fact.holds] at h136
          have h132 : (Fact.val (.bool false)).holds (u 132) w_ := hd.get 17 (by kernel_rfl)
          simp only [Fact.holds] at h132
          clear hd
          simp only [h132, h136] at hK
          have k0 := Bk.conv8_here (Bk.row8_chg hrA hc)
          rw [hST] at k0
          go_simp
          exact hK.out _ w_ (Chg.refl _ _) rfl
        · intro u w_ hc hd K hK -- 138
          have h132 : (Fact.val (.bool false)).holds (u 132) w_ := hd.get 17 (by kernel_rfl)
          simp only [Fact.holds] at h132
          clear hd
          simp only [h132] at hK
          go_simp
          exact hK.out (.slice ba m bc) w_ (Chg.refl _ _) rfl
        · intro u w_ hc hd K hK -- 139
          have h138 : (Fact.val (.slice ba m bc)).holds (u 138) w_ := hd.get 23 (by kernel_rfl)
          simp only [Fact.holds] at h138
          have h132 : (Fact.val (.bool false)).holds (u 132) w_ := hd.get 17 (by kernel_rfl)
          simp only [Fact.holds] at h132
          clear hd
          simp only [h132, h138] at hK
          have k0 := Bk.conv8_here (Bk.row8_chg hrB hc)
          rw [hST] at k0
          go_simp
          exact hK.out _ w_ (Chg.refl _ _) rfl
        · intro u w_ hc hd K hK -- 140
          have h137 : (Fact.val (.string ST)).holds (u 137) w_ := hd.get 22 (by kernel_rfl)
          simp only [Fact.holds] at h137
          have h139 : (Fact.val (.string ST)).holds (u 139) w_ := hd.get 24 (by kernel_rfl)
          simp only [Fact.holds] at h139
          have h132 : (Fact.val (.bool false)).holds (u 132) w_ := hd.get 17 (by kernel_rfl)
          simp only [Fact.holds] at h132
          clear hd
          simp only [h132, h137, h139] at hK
          go_simp
          exact hK.out (.bool false) w_ (Chg.refl _ _) rfl
        · intro u w_ hc hd K hK -- 141
          have h132 : (Fact.val (.bool false)).holds (u 132) w_ := hd.get 17 (by kernel_rfl)
          simp only [Fact.holds] at h132
          have h140 : (Fact.val (.bool false)).holds (u 140) w_ := hd.get 25 (by kernel_rfl)
          simp only [Fact.holds] at h140
          clear hd
          simp only [h132, h140] at hK
          go_simp
          exact hK.out (.bool false) w_ (Chg.refl _ _) rfl
        · intro u w_ hc hd K hK -- 142
          have h141 : (Fact.val (.bool false)).holds (u 141) w_ := hd.get 26 (by kernel_rfl)
          simp only [Fact.holds] at h141
          clear hd
          simp only [h141] at hK
          go_simp
          exact hK.out (.bool false) w_ (Chg.refl _ _) rfl
        · intro u w_ hc hd K hK -- 143
          have h142 : (Fact.val (.bool false)).holds (u 142) w_ := hd.get 27 (by kernel_rfl)
          simp only [Fact.holds] at h142
          clear hd
          simp only [h142] at hK
          go_simp
          exact hK.out (.slice (some ⟨g6, 0, none⟩) (m + 1) d6) w_ (Chg.refl _ _) rfl
        · intro u w_ hc hd K hK -- 144
          have h142 : (Fact.val (.bool false)).holds (u 142) w_ := hd.get 27 (by kernel_rfl)
          simp only [Fact.holds] at h142
          clear hd
          simp only [h142] at hK
          go_simp
          exact hK.out (.slice ba m bc) w_ (Chg.refl _ _) rfl
        · intro u w_ hc hd K hK -- 145
          have h144 : (Fact.val (.slice ba m bc)).holds (u 144) w_ := hd.get 29 (by kernel_rfl)
          simp only [Fact.holds] at h144
          have h142 : (Fact.val (.bool false)).holds (u 142) w_ := hd.get 27 (by kernel_rfl)
          simp only [Fact.holds] at h142
          clear hd
          simp only [h142, h144] at hK
          go_simp
          exact hK.out (.int .i64 (m : Int)) w_ (Chg.refl _ _) rfl
        · intro u w_ hc hd K hK -- 146
          have h143 : (Fact.val (.slice (some ⟨g6, 0, none⟩) (m + 1) d6)).holds (u 143) w_ := hd.get 28 (by kernel_rfl)
          simp only [Fact.holds] at h143
          have h145 : (Fact.val (.int .i64 (m : Int))).holds (u 145) w_ := hd.get 30 (by kernel_rfl)
          simp only [Fact.holds] at h145
          have h142 : (Fact.val (.bool false)).holds (u 142) w_ := hd.get 27 (by kernel_rfl)
          simp only [Fact.holds] at h142
          clear hd
          simp only [h142, h143, h145] at hK
          go_simp
          exact hK.out (.pointer (some ⟨g6, m, none⟩)) w_ (Chg.refl _ _) rfl
        · intro u w_ hc hd K hK -- 147
          have h146 : (Fact.val (.pointer (some ⟨g6, m, none⟩))).holds (u 146) w_ := hd.get 31 (by kernel_rfl)
          simp only [Fact.holds] at h146
          have h142 : (Fact.val (.bool false)).holds (u 142) w_ := hd.get 27 (by kernel_rfl)
          simp only [Fact.holds] at h142
          clear hd
          simp only [h142, h146] at hK
          have k0 := cell_chg hlA hc
          go_simp
          exact hK.out _ w_ (Chg.refl _ _) rfl
        · intro u w_ hc hd K hK -- 148
          have h147 : (Fact.val (.int .u8 34)).holds (u 147) w_ := hd.get 32 (by kernel_rfl)
          simp only [Fact.holds] at h147
          have h142 : (Fact.val (.bool false)).holds (u 142) w_ := hd.get 27 (by kernel_rfl)
          simp only [Fact.holds] at h142
          clear hd
          simp only [h142, h147] at hK
          go_simp
          exact hK.out (.bool false) w_ (Chg.refl _ _) rfl
        · intro u w_ hc hd K hK -- 149
          have h142 : (Fact.val (.bool false)).holds (u 142) w_ := hd.get 27 (by kernel_rfl)
          simp only [Fact.holds] at h142
          have h148 : (Fact.val (.bool false)).holds (u 148) w_ := hd.get 33 (by kernel_rfl)
          simp only [Fact.holds] at h148
          clear hd
          simp only [h142, h148] at hK
          go_simp
          exact hK.out (.bool false) w_ (Chg.refl _ _) rfl
      · intro u w14 hc hA
        have h149 : (Fact.val (.bool false)).holds (u 149) w14 := hA.at 149 (by kernel_rfl)
        simp only [Fact.holds] at h149
        clear hA
        simp only [h149]
        have HC14 : Hid (Chg (fun _ => False) w0 w14) := chg_then HC9.out (chg_then HC13.out hc)
        have HB14 : Hid (w14.heap[w0.heap.size]? = some (.cells #[.int .i64 ch, .int .i64 de, .int .i64 lc, .int .i64 lp, .int .i64 pb, .int .i64 di, .int .i64 bl, .int .i64 mo] 27 (0, 0))) := blk_keep HB9.out (chg_then HC13.out hc) (fun f => f)
        obtain ⟨b0, b1, b2, b3, b4, b5, b6, b7⟩ := cells8f HB14.out
        have HOF : Hid _ := S.of (⟨ch, de, lc, lp, pb, di, bl, mo⟩ : Cfg) w14 (S.keep HT.out HC14.out) HI.out
        have HRO : Hid (∀ ww, Calls Tryd.prog 16 #[.agg #[.int .i64 ch, .int .i64 de, .int .i64 lc, .int .i64 lp, .int .i64 pb, .int .i64 di, .int .i64 bl, .int .i64 mo]] ww fun e w' => ∃ ad n cp l, e = .returned (.tuple #[.slice ad n cp, .int .i64 (Cn20.ofF (⟨ch, de, lc, lp, pb, di, bl, mo⟩ : Cfg)).2]) ∧ FlL w' ad l ∧ l.length = n ∧ l.map FlV.f = (Cn20.ofF (⟨ch, de, lc, lp, pb, di, bl, mo⟩ : Cfg)).1 ∧ Chg (fun _ => False) ww w') := fun ww => rof20_any ch de lc lp pb di bl mo HI.out ww
        have HLG : Hid (∀ ww, Chg (fun _ => False) w0 ww → Calls Tryd.prog 17 #[.agg #[.int .i64 ch, .int .i64 de, .int .i64 lc, .int .i64 lp, .int .i64 pb, .int .i64 di, .int .i64 bl, .int .i64 mo]] ww fun e w' => e = .returned (.int .i64 (Cn20.legal (⟨ch, de, lc, lp, pb, di, bl, mo⟩ : Cfg))) ∧ Chg (fun _ => False) ww w') := fun ww hc => S.legal (⟨ch, de, lc, lp, pb, di, bl, mo⟩ : Cfg) ww (S.keep HT.out hc) HI.out
        have HRL : Hid (∀ ww, Calls Tryd.prog 18 #[.agg #[.int .i64 ch, .int .i64 de, .int .i64 lc, .int .i64 lp, .int .i64 pb, .int .i64 di, .int .i64 bl, .int .i64 mo]] ww fun e w' => e = .returned (.int .i64 (Cn20.legal (⟨ch, de, lc, lp, pb, di, bl, mo⟩ : Cfg))) ∧ Chg (fun _ => False) ww w') := fun ww => rlegal20_any ch de lc lp pb di bl mo HI.out ww
        unfold cfv at HOF
        simp only at HOF
        obtain ⟨OL, oe, hof⟩ : ∃ a b, Cn20.ofF (⟨ch, de, lc, lp, pb, di, bl, mo⟩ : Cfg) = (a, b) := ⟨_, _, rfl⟩
        rw [hof] at HOF HRO
        simp only at HOF HRO
        obtain ⟨lg, hlg⟩ : ∃ a, Cn20.legal (⟨ch, de, lc, lp, pb, di, bl, mo⟩ : Cfg) = a := ⟨_, rfl⟩
        rw [hlg] at HLG HRL
        have hol : OL.length ≤ 2 := by
          have h9 := hof
          unfold Cn20.ofF at h9
          split at h9
          · simp only [Prod.mk.injEq] at h9
            rw [← h9.1]
            simp
          · simp only [Prod.mk.injEq] at h9
            rw [← h9.1]
            split <;> simp
        clear h149 hof hlg hc hrA hrB hlA hss hST x1 x2 x3 g0 g1 f0 f1 HC13 HB9 HC9 HRW HLC hcut HO13 HP13
        go_upto_region 19 with fail
        go_wp2_with fail
        refine Calls.mono HOF.out ?_
        rintro z w15 ⟨sa, sn, sc, sl, rfl, hs1, hs2, hs3, c15⟩
        replace b0 := cell_chg b0 c15
        replace b1 := cell_chg b1 c15
        replace b2 := cell_chg b2 c15
        replace b3 := cell_chg b3 c15
        replace b4 := cell_chg b4 c15
        replace b5 := cell_chg b5 c15
        replace b6 := cell_chg b6 c15
        replace b7 := cell_chg b7 c15
        have HS15 : Hid (FlL w15 sa sl ∧ sl.length = sn ∧ sl.map FlV.f = OL) := ⟨hs1, hs2, hs3⟩
        have HC15 : Hid (Chg (fun _ => False) w0 w15) := chg_then HC14.out c15
        clear hs1 hs2 hs3 c15 HOF HC14 HB14
        go_wp2_with fail
        refine Calls.mono (HRO.out w15) ?_
        rintro z w16 ⟨ta, tn, tc, tl, rfl, ht1, ht2, ht3, c16⟩
        replace b0 := cell_chg b0 c16
        replace b1 := cell_chg b1 c16
        replace b2 := cell_chg b2 c16
        replace b3 := cell_chg b3 c16
        replace b4 := cell_chg b4 c16
        replace b5 := cell_chg b5 c16
        replace b6 := cell_chg b6 c16
        replace b7 := cell_chg b7 c16
        have hstn : sn = tn := by
          have h1 := congrArg List.length HS15.out.2.2
          have h2 := congrArg List.length ht3
          rw [List.length_map] at h1 h2
          have := HS15.out.2.1
          omega
        subst hstn
        have htn : sn ≤ 2 := by
          have h2 := congrArg List.length ht3
          rw [List.length_map] at h2
          omega
        have HC16 : Hid (Chg (fun _ => False) w0 w16) := chg_then HC15.out c16
        have HSM : Hid (∀ ww, Chg (fun _ => False) w16 ww → Calls Tryd.prog 14 #[.slice sa sn sc, .slice ta sn tc] ww fun e w' => e = .returned (.bool true) ∧ Chg (fun _ => False) ww w') := fun ww hc => same20_any ww sa ta sn sc tc sl tl (HS15.out.1.new (chg_then c16 hc)) (ht1.new hc) ht2 (by rw [HS15.out.2.2, ht3]) (by omega)
        clear ht1 ht2 ht3 c16 HRO HC15 HS15
        go_upto_region 21 with fail
        have y1 : (oe == oe) = true := by simp
        have y2 : (lg == lg) = true := by simp
        refine wp_region_free (mk := fun u => #[_, _, _, _, _, _, u 6, _, _, _, _, _, _, _, _, _, _, _, _, _, _, _, _, _, _, _, _, _, _, _, _, _, _, _, _, _, _, _, _, _, _, _, _, _, _, _, _, _, _, _, _, _, _, _, _, _, _, _, _, _, _, _, _, _, _, _, _, _, _, _, _, _, _, _, _, _, _, _, _, _, _, _, _, _, _, _, _, _, _, _, _, _, _, _, _, _, _, _, _, _, _, _, _, _, _, _, _, _, _, _, _, _, _, _, _, _, _, _, _, _, _, _, _, _, _, _, _, _, _, _, _, _, _, _, _, _, _, _, _, _, _, _, _, _, _, _, _, _, _, _, _, _, _, _, _, _, _, _, _, _, u 160, u 161, u 162, u 163, u 164, u 165, u 166, u 167, u 168, u 169, u 170, u 171, u 172, u 173, u 174, u 175, u 176, u 177, u 178, u 179]) (F := fun slot vv ww => (look [(160, .val (.slice sa sn sc)), (161, .val (.slice ta sn tc)), (162, .val (.bool true)), (163, .val (.bool true)), (164, .val (.int .i64 oe)), (165, .val (.int .i64 oe)), (166, .val (.int .i64 oe)), (167, .val (.bool true)), (168, .val (.bool true)), (169, .val (.bool true)), (170, .val (.agg #[.int .i64 ch, .int .i64 de, .int .i64 lc, .int .i64 lp, .int .i64 pb, .int .i64 di, .int .i64 bl, .int .i64 mo])), (171, .val (.int .i64 lg)), (172, .val (.int .i64 lg)), (173, .val (.agg #[.int .i64 ch, .int .i64 de, .int .i64 lc, .int .i64 lp, .int .i64 pb, .int .i64 di, .int .i64 bl, .int .i64 mo])), (174, .val (.int .i64 lg)), (175, .val (.bool true)), (176, .val (.bool true)), (177, .val (.bool true)), (178, .val (.bool true)), (179, .val (.bool true)), (6, .val (.bool true))] slot).holds vv ww) (fun t => if t = 6 then u6 else undef) rfl (by kernel_rfl) (by kernel_rfl) ?_ (fun _ v w w' hc h => Fact.stays _ v w w' hc h) ?_ ?_
        · repeat (refine ⟨⟨_, rfl, fun _ _ => rfl⟩, ?_⟩)
          exact trivial
        · refine ⟨?_, ?_, ?_, ?_, ?_, ?_, ?_, ?_, ?_, ?_, ?_, ?_, ?_, ?_, ?_, ?_, ?_, ?_, ?_, ?_, ?_, trivial⟩
          · intro u w_ hc hd K hK -- 160
            clear hd
            go_simp
            exact hK.out (.slice sa sn sc) w_ (Chg.refl _ _) rfl
          · intro u w_ hc hd K hK -- 161
            clear hd
            go_simp
            exact hK.out (.slice ta sn tc) w_ (Chg.refl _ _) rfl
          · intro u w_ hc hd K hK -- 162
            have h160 : (Fact.val (.slice sa sn sc)).holds (u 160) w_ := hd.get 0 (by kernel_rfl)
            simp only [Fact.holds] at h160
            have h161 : (Fact.val (.slice ta sn tc)).holds (u 161) w_ := hd.get 1 (by kernel_rfl)
            simp only [Fact.holds] at h161
            clear hd
            simp only [h160, h161] at hK
            go_simp
            go_at_call 14
            refine Calls.mono (HSM.out w_ hc) ?_
            rintro z w2 ⟨rfl, c2⟩
            exact hK.out _ w2 c2 rfl
          · intro u w_ hc hd K hK -- 163
            have h162 : (Fact.val (.bool true)).holds (u 162) w_ := hd.get 2 (by kernel_rfl)
            simp only [Fact.holds] at h162
            clear hd
            simp only [h162] at hK
            go_simp
            exact hK.out (.bool true) w_ (Chg.refl _ _) rfl
          · intro u w_ hc hd K hK -- 164
            have h163 : (Fact.val (.bool true)).holds (u 163) w_ := hd.get 3 (by kernel_rfl)
            simp only [Fact.holds] at h163
            clear hd
            simp only [h163] at hK
            go_simp
            exact hK.out (.int .i64 oe) w_ (Chg.refl _ _) rfl
          · intro u w_ hc hd K hK -- 165
            have h164 : (Fact.val (.int .i64 oe)).holds (u 164) w_ := hd.get 4 (by kernel_rfl)
            simp only [Fact.holds] at h164
            have h163 : (Fact.val (.bool true)).holds (u 163) w_ := hd.get 3 (by kernel_rfl)
            simp only [Fact.holds] at h163
            clear hd
            simp only [h163, h164] at hK
            go_simp
            go_at_call 8
            refine (HN.out _ _).mono ?_
            rintro z w2 ⟨rfl, rfl⟩
            exact hK.out _ _ (Chg.refl _ _) rfl
          · intro u w_ hc hd K hK -- 166
            have h163 : (Fact.val (.bool true)).holds (u 163) w_ := hd.get 3 (by kernel_rfl)
            simp only [Fact.holds] at h163
            clear hd
            simp only [h163] at hK
            go_simp
            exact hK.out (.int .i64 oe) w_ (Chg.refl _ _) rfl
          · intro u w_ hc hd K hK -- 167
            have h165 : (Fact.val (.int .i64 oe)).holds (u 165) w_ := hd.get 5 (by kernel_rfl)
            simp only [Fact.holds] at h165
            have h166 : (Fact.val (.int .i64 oe)).holds (u 166) w_ := hd.get 6 (by kernel_rfl)
            simp only [Fact.holds] at h166
            have h163 : (Fact.val (.bool true)).holds (u 163) w_ := hd.get 3 (by kernel_rfl)
            simp only [Fact.holds] at h163
            clear hd
            simp only [h163, h165, h166] at hK
            go_simp
            exact hK.out (.bool true) w_ (Chg.refl _ _) rfl
          · intro u w_ hc hd K hK -- 168
            have h163 : (Fact.val (.bool true)).holds (u 163) w_ := hd.get 3 (by kernel_rfl)
            simp only [Fact.holds] at h163
            have h167 : (Fact.val (.bool true)).holds (u 167) w_ := hd.get 7 (by kernel_rfl)
            simp only [Fact.holds] at h167
            clear hd
            simp only [h163, h167] at hK
            go_simp
            exact hK.out (.bool true) w_ (Chg.refl _ _) rfl
          · intro u w_ hc hd K hK -- 169
            have h168 : (Fact.val (.bool true)).holds (u 168) w_ := hd.get 8 (by kernel_rfl)
            simp only [Fact.holds] at h168
            clear hd
            simp only [h168] at hK
            go_simp
            exact hK.out (.bool true) w_ (Chg.refl _ _) rfl
          · intro u w_ hc hd K hK -- 170
            have h169 : (Fact.val (.bool true)).holds (u 169) w_ := hd.get 9 (by kernel_rfl)
            simp only [Fact.holds] at h169
            clear hd
            simp only [h169] at hK
            have k0 := cell_chg b0 hc
            have k1 := cell_chg b1 hc
            have k2 := cell_chg b2 hc
            have k3 := cell_chg b3 hc
            have k4 := cell_chg b4 hc
            have k5 := cell_chg b5 hc
            have k6 := cell_chg b6 hc
            have k7 := cell_chg b7 hc
            go_simp
            exact hK.out _ w_ (Chg.refl _ _) rfl
          · intro u w_ hc hd K hK -- 171
            have h170 : (Fact.val (.agg #[.int .i64 ch, .int .i64 de, .int .i64 lc, .int .i64 lp, .int .i64 pb, .int .i64 di, .int .i64 bl, .int .i64 mo])).holds (u 170) w_ := hd.get 10 (by kernel_rfl)
            simp only [Fact.holds] at h170
            have h169 : (Fact.val (.bool true)).holds (u 169) w_ := hd.get 9 (by kernel_rfl)
            simp only [Fact.holds] at h169
            clear hd
            simp only [h169, h170] at hK
            go_simp
            go_at_call 17
            refine Calls.mono (HLG.out w_ (chg_then HC16.out hc)) ?_
            rintro z w2 ⟨rfl, c2⟩
            exact hK.out _ w2 c2 rfl
          · intro u w_ hc hd K hK -- 172
            have h171 : (Fact.val (.int .i64 lg)).holds (u 171) w_ := hd.get 11 (by kernel_rfl)
            simp only [Fact.holds] at h171
            have h169 : (Fact.val (.bool true)).holds (u 169) w_ := hd.get 9 (by kernel_rfl)
            simp only [Fact.holds] at h169
            clear hd
            simp only [h169, h171] at hK
            go_simp
            go_at_call 8
            refine (HN.out _ _).mono ?_
            rintro z w2 ⟨rfl, rfl⟩
            exact hK.out _ _ (Chg.refl _ _) rfl
          · intro u w_ hc hd K hK -- 173
            have h169 : (Fact.val (.bool true)).holds (u 169) w_ := hd.get 9 (by kernel_rfl)
            simp only [Fact.holds] at h169
            clear hd
            simp only [h169] at hK
            have k0 := cell_chg b0 hc
            have k1 := cell_chg b1 hc
            have k2 := cell_chg b2 hc
            have k3 := cell_chg b3 hc
            have k4 := cell_chg b4 hc
            have k5 := cell_chg b5 hc
            have k6 := cell_chg b6 hc
            have k7 := cell_chg b7 hc
            go_simp
            exact hK.out _ w_ (Chg.refl _ _) rfl
          · intro u w_ hc hd K hK -- 174
            have h173 : (Fact.val (.agg #[.int .i64 ch, .int .i64 de, .int .i64 lc, .int .i64 lp, .int .i64 pb, .int .i64 di, .int .i64 bl, .int .i64 mo])).holds (u 173) w_ := hd.get 13 (by kernel_rfl)
            simp only [Fact.holds] at h173
            have h169 : (Fact.val (.bool true)).holds (u 169) w_ := hd.get 9 (by kernel_rfl)
            simp only [Fact.holds] at h169
            clear hd
            simp only [h169, h173] at hK
            go_simp
            go_at_call 18
            refine Calls.mono (HRL.out w_) ?_
            rintro z w2 ⟨rfl, c2⟩
            exact hK.out _ w2 c2 rfl
          · intro u w_ hc hd K hK -- 175
            have h172 : (Fact.val (.int .i64 lg)).holds (u 172) w_ := hd.get 12 (by kernel_rfl)
            simp only [Fact.holds] at h172
            have h174 : (Fact.val (.int .i64 lg)).holds (u 174) w_ := hd.get 14 (by kernel_rfl)
            simp only [Fact.holds] at h174
            have h169 : (Fact.val (.bool true)).holds (u 169) w_ := hd.get 9 (by kernel_rfl)
            simp only [Fact.holds] at h169
            clear hd
            simp only [h169, h172, h174] at hK
            go_simp
            exact hK.out (.bool true) w_ (Chg.refl _ _) rfl
          · intro u w_ hc hd K hK -- 176
            have h169 : (Fact.val (.bool true)).holds (u 169) w_ := hd.get 9 (by kernel_rfl)
            simp only [Fact.holds] at h169
            have h175 : (Fact.val (.bool true)).holds (u 175) w_ := hd.get 15 (by kernel_rfl)
            simp only [Fact.holds] at h175
            clear hd
            simp only [h169, h175] at hK
            go_simp
            exact hK.out (.bool true) w_ (Chg.refl _ _) rfl
          · intro u w_ hc hd K hK -- 177
            have h176 : (Fact.val (.bool true)).holds (u 176) w_ := hd.get 16 (by kernel_rfl)
            simp only [Fact.holds] at h176
            clear hd
            simp only [h176] at hK
            go_simp
            exact hK.out (.bool true) w_ (Chg.refl _ _) rfl
          · intro u w_ hc hd K hK -- 178
            have h177 : (Fact.val (.bool true)).holds (u 177) w_ := hd.get 17 (by kernel_rfl)
            simp only [Fact.holds] at h177
            clear hd
            simp only [h177] at hK
            go_simp
            go_at_call 19
            refine Calls.mono (HK.out w_ (chg_then HC16.out hc)) ?_
            rintro z w2 ⟨rfl, c2⟩
            exact hK.out _ w2 c2 rfl
          · intro u w_ hc hd K hK -- 179
            have h177 : (Fact.val (.bool true)).holds (u 177) w_ := hd.get 17 (by kernel_rfl)
            simp only [Fact.holds] at h177
            have h178 : (Fact.val (.bool true)).holds (u 178) w_ := hd.get 18 (by kernel_rfl)
            simp only [Fact.holds] at h178
            clear hd
            simp only [h177, h178] at hK
            go_simp
            exact hK.out (.bool true) w_ (Chg.refl _ _) rfl
          · intro u w_ hc hd K hK -- 6
            have h179 : (Fact.val (.bool true)).holds (u 179) w_ := hd.get 19 (by kernel_rfl)
            simp only [Fact.holds] at h179
            clear hd
            simp only [h179] at hK
            go_simp
            exact hK.out (.bool true) w_ (Chg.refl _ _) rfl
        · intro u2 w17 hc hA
          have h179 : (Fact.val (.bool true)).holds (u2 6) w17 := hA.at 6 (by kernel_rfl)
          simp only [Fact.holds] at h179
          clear hA
          simp only [h179]
          have HCF : Hid (Chg (fun _ => False) w0 w17) := chg_then HC16.out hc
          go_wp2
          go_ret
          exact ⟨rfl, HCF.out⟩
end Go.Proofs.YtmkiohnabbfkcaaDoor
