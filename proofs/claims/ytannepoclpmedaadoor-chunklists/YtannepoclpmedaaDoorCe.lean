/- There and back: the walk of ChunkBack; of no statement by itself. -/
import Derived.Test.YtannepoclpmedaaDoorCs
namespace Go.Proofs.YtannepoclpmedaaDoor
open Go.RowKit
open St12
set_option linter.unusedVariables false
set_option linter.unusedSimpArgs false
variable {Tab : World → Prop}
set_option maxHeartbeats 8000000 in
set_option maxRecDepth 100000 in
theorem back17_any (S : ChunkSpec Tab) (k s p lc lp pb : Int) (hI : (⟨k, s, p, lc, lp, pb⟩ : Chk).I) (ta : Option Addr) (tn tc : Nat) (ts : List Nat) (w0 : World) (hT : Tab w0) (hts : Row8 w0 ta tn tc (nums ts)) (hdg : Rc.Dig ts) (hn : tn ≤ 140737488351232) : Calls Tryd.prog 3 #[.agg #[.int .i64 k, .int .i64 s, .int .i64 p, .int .i64 lc, .int .i64 lp, .int .i64 pb], .slice ta tn tc] w0 fun e w' => e = .returned (.bool true) ∧ Chg (fun _ => False) w0 w' := by
  obtain ⟨iu, hiu, hu0, hu1, hu2⟩ := info_parts info5u
  have HT : Hid (Tab w0) := hT
  have HN : Hid (∀ x ww, Calls Tryd.prog 10 #[.int .i64 x] ww fun e w' => e = .returned (.int .i64 x) ∧ w' = ww) := num_q
  have HK : Hid (∀ ww, Chg (fun _ => False) w0 ww → Calls Tryd.prog 11 #[] ww fun e w' => e = .returned (.bool true) ∧ Chg (fun _ => False) ww w') := fun ww hc => known17_any S ww (S.keep HT.out hc)
  have HTS : Hid (Row8 w0 ta tn tc (nums ts) ∧ Rc.Dig ts) := ⟨hts, hdg⟩
  have c0 := chg_one w0 (.cells #[.int .i64 k, .int .i64 s, .int .i64 p, .int .i64 lc, .int .i64 lp, .int .i64 pb] 25)
  have hb0 := heap_alloc_last w0 (.cells #[.int .i64 k, .int .i64 s, .int .i64 p, .int .i64 lc, .int .i64 lp, .int .i64 pb] 25)
  have HP : Hid _ := S.put ⟨k, s, p, lc, lp, pb⟩ (w0.alloc (.cells #[.int .i64 k, .int .i64 s, .int .i64 p, .int .i64 lc, .int .i64 lp, .int .i64 pb] 25)) (S.keep hT c0) hI
  have HC0 : Hid (Chg (fun _ => False) w0 (w0.alloc (.cells #[.int .i64 k, .int .i64 s, .int .i64 p, .int .i64 lc, .int .i64 lp, .int .i64 pb] 25))) := c0
  have HB0 : Hid ((w0.alloc (.cells #[.int .i64 k, .int .i64 s, .int .i64 p, .int .i64 lc, .int .i64 lp, .int .i64 pb] 25)).heap[w0.heap.size]? = some (.cells #[.int .i64 k, .int .i64 s, .int .i64 p, .int .i64 lc, .int .i64 lp, .int .i64 pb] 25 (0, 0))) := hb0
  obtain ⟨m0, m1, m2, m3, m4, m5⟩ := cells6 hb0
  unfold chv at HP
  simp only at HP
  have HTH : Hid (∀ t, (Ck17.putA ⟨k, s, p, lc, lp, pb⟩).2 = 0 → Ck17.getA ((Ck17.putA ⟨k, s, p, lc, lp, pb⟩).1 ++ t) = (Ck17.back ⟨k, s, p, lc, lp, pb⟩, (Ck17.putA ⟨k, s, p, lc, lp, pb⟩).1.length, 0) ∧ 1 ≤ (Ck17.putA ⟨k, s, p, lc, lp, pb⟩).1.length) := fun t h => Ck17.there _ t h
  have HCU : Hid (∀ i, (Ck17.putA ⟨k, s, p, lc, lp, pb⟩).2 = 0 → i < (Ck17.putA ⟨k, s, p, lc, lp, pb⟩).1.length → Ck17.getA ((Ck17.putA ⟨k, s, p, lc, lp, pb⟩).1.take i) = (Ck17.zeroC, 0, 1)) := fun i h hi => Ck17.cut _ h i hi
  have HER := Ck17.put_err ⟨k, s, p, lc, lp, pb⟩
  have HDP : Hid (Rc.Dig (Ck17.putA ⟨k, s, p, lc, lp, pb⟩).1) := Ck17.dig_put _
  have HLP := Ck17.len_put ⟨k, s, p, lc, lp, pb⟩
  obtain ⟨P, er, hPe⟩ : ∃ P er, Ck17.putA ⟨k, s, p, lc, lp, pb⟩ = (P, er) := ⟨_, _, rfl⟩
  rw [hPe] at HP HTH HCU HER HDP HLP
  simp only at HP HTH HCU HER HDP HLP
  clear hT hts hdg hI c0 hb0 hPe
  go_enter Tryd.func3, Tryd.ntmps3
  go_wp2_with fail
  refine Calls.mono HP.out ?_
  rintro z w1 ⟨ov, rfl, ho, c1⟩
  obtain ⟨oa, oc, rfl⟩ := byO_form ho
  have HO1 : Hid (ByO w1 w0.heap.size (.slice oa P.length oc) P) := owns_base ho HC0.out.size
  have HC1 : Hid (Chg (fun _ => False) w0 w1) := chg_then HC0.out c1
  have HB1 : Hid (w1.heap[w0.heap.size]? = some (.cells #[.int .i64 k, .int .i64 s, .int .i64 p, .int .i64 lc, .int .i64 lp, .int .i64 pb] 25 (0, 0))) := blk_keep HB0.out c1 (fun f => f)
  clear ho c1 HP HC0 HB0 m0 m1 m2 m3 m4 m5
  go_wp2_with fail
  refine Calls.mono (HN.out _ _) ?_
  rintro z w1 ⟨rfl, rfl⟩
  by_cases he : er = 0
  rotate_left
  · have d0 : (er != 0) = true := by simp [he]
    have d0' : (er == 0) = false := by simp [he]
    obtain ⟨hP0, h67⟩ : P = [] ∧ (er = 6 ∨ er = 7) := HER.resolve_left he
    subst hP0
    simp only [List.length_nil] at HO1 ⊢
    clear HTH HCU HER HDP HLP he
    rcases h67 with rfl | rfl
    · clear d0 d0'
      go_wp2_with fail
      refine Calls.mono (HN.out _ _) ?_
      rintro z w9 ⟨rfl, rfl⟩
      go_wp2_with fail
      refine Calls.mono (HK.out _ HC1.out) ?_
      rintro z w2 ⟨rfl, c2⟩
      have HC2 : Hid (Chg (fun _ => False) w0 w2) := chg_then HC1.out c2
      clear c2
      go_wp2
      go_ret
      exact ⟨rfl, HC2.out⟩
    · clear d0 d0'
      go_wp2_with fail
      refine Calls.mono (HN.out _ _) ?_
      rintro z w9 ⟨rfl, rfl⟩
      go_wp2_with fail
      refine Calls.mono (HN.out _ _) ?_
      rintro z w9 ⟨rfl, rfl⟩
      go_wp2_with fail
      refine Calls.mono (HK.out _ HC1.out) ?_
      rintro z w2 ⟨rfl, c2⟩
      have HC2 : Hid (Chg (fun _ => False) w0 w2) := chg_then HC1.out c2
      clear c2
      go_wp2
      go_ret
      exact ⟨rfl, HC2.out⟩
  · subst he
    clear HER
    obtain ⟨m0, m1, m2, m3, m4, m5⟩ := cells6 HB1.out
    have hPl : (P.length : Int) ≤ 6 := by omega
    by_cases hk5 : k < 5
    · have d5 : decide (k < 5) = true := decide_eq_true hk5
      have HBK : Hid (Ck17.back ⟨k, s, p, lc, lp, pb⟩ = ⟨k, s, p, 0, 0, 0⟩) := by show _ = _; unfold Ck17.back; rw [if_pos hk5]
      clear hk5
      have c2 := chg_one w1 (.cells #[.int .i64 k, .int .i64 s, .int .i64 p, .int .i64 0, .int .i64 0, .int .i64 0] 25)
      have b2 := heap_alloc_last w1 (.cells #[.int .i64 k, .int .i64 s, .int .i64 p, .int .i64 0, .int .i64 0, .int .i64 0] 25)
      have HC2 : Hid (Chg (fun _ => False) w0 (w1.alloc (.cells #[.int .i64 k, .int .i64 s, .int .i64 p, .int .i64 0, .int .i64 0, .int .i64 0] 25))) := chg_then HC1.out c2
      have HO2 : Hid (ByO (w1.alloc (.cells #[.int .i64 k, .int .i64 s, .int .i64 p, .int .i64 0, .int .i64 0, .int .i64 0] 25)) w0.heap.size (.slice oa P.length oc) P) := HO1.out.new c2
      have HB2 : Hid ((w1.alloc (.cells #[.int .i64 k, .int .i64 s, .int .i64 p, .int .i64 0, .int .i64 0, .int .i64 0] 25)).heap[w1.heap.size]? = some (.cells #[.int .i64 k, .int .i64 s, .int .i64 p, .int .i64 0, .int .i64 0, .int .i64 0] 25 (0, 0))) := b2
      obtain ⟨n0, n1, n2, n3, n4, n5⟩ := cells6 (blk_keep HB1.out (chg_one w1 (.cells #[.int .i64 k, .int .i64 s, .int .i64 p, .int .i64 lc, .int .i64 lp, .int .i64 pb] 25)) (fun f => f))
      clear c2 b2
      go_upto_region 7 with fail
      generalize w1.alloc (.cells #[.int .i64 k, .int .i64 s, .int .i64 p, .int .i64 0, .int .i64 0, .int .i64 0] 25) = W2 at *
      generalize w1.heap.size = wb at *
      clear m0 m1 m2 m3 m4 m5 n0 n1 n2 n3 n4 n5 d5
      have c3 := chg_one W2 (.cells #[] 5)
      have hown3 := own_empty W2 5
      have hr3 := (byO_row (HO2.out.new c3)).1
      have hsrc3 := hr3.src
      have hone3 := oneB P
      have hB3 : W2.heap.size ≤ (W2.alloc (.cells #[] 5)).heap.size := c3.size
      have HC3 : Hid (Chg (fun _ => False) W2 (W2.alloc (.cells #[] 5))) := c3
      clear c3 hr3
      go_wp2_with (at_builtin; refine wpList_append_moved rfl _ _ 26 rfl W2.heap.size 5 iu (.int .u8 0) 1 1 Tryd.underlying26 hiu hu0 hu1 hu2 rfl (by decide) _ 0 [] rfl oa P.length oc rfl ((nums P).map (Value.int .u8)) ?h1 ?h2 ?h3 ?m1 ?m2 ?m3 ?_)
      case h1 => exact hown3
      case h2 => exact hsrc3
      case h3 => exact hone3
      case m1 => unfold maxLen; omega
      case m2 => omega
      case m3 => exact hB3
      intro v4 w4 ho4 hg4 hm4
      have c4 : Chg (fun _ => False) W2 w4 := HC3.out.grown hg4 (fun j e => .inr (by simp [Value.ownBlock] at e; omega))
      try simp only [List.nil_append, Nat.zero_add] at ho4
      obtain ⟨a4, d4, rfl⟩ := form1 ho4
      have HO4 : Hid (w4.ownsRow W2.heap.size 5 1 (.slice a4 P.length d4) P.length ((nums P).map (Value.int .u8))) := ho4
      have HC4 : Hid (Chg (fun _ => False) W2 w4) := c4
      have hsrc5 := (Bk.row8_chg HTS.out.1 (chg_then HC2.out c4)).src
      have hone5 := oneB ts
      have hB5 : W2.heap.size ≤ w4.heap.size := c4.size
      clear ho4 hg4 hm4 c4 hown3 hsrc3 hone3 hB3
      go_wp2_with (at_builtin; refine wpList_append_moved rfl _ _ 26 rfl W2.heap.size 5 iu (.int .u8 0) 1 1 Tryd.underlying26 hiu hu0 hu1 hu2 rfl (by decide) _ P.length ((nums P).map (Value.int .u8)) rfl ta tn tc rfl ((nums ts).map (Value.int .u8)) ?h1 ?h2 ?h3 ?m1 ?m2 ?m3 ?_)
      case h1 => exact HO4.out
      case h2 => exact hsrc5
      case h3 => exact hone5
      case m1 => unfold maxLen; omega
      case m2 => omega
      case m3 => exact hB5
      intro v5 w5 ho5 hg5 hm5
      have c5 : Chg (fun _ => False) W2 w5 := HC4.out.grown hg5 (fun j e => .inr (HO4.out.lt j e).1)
      have hby := byO_app ho5
      obtain ⟨a5, d5, rfl⟩ := form1 ho5
      obtain ⟨hrow, hlen, hcap⟩ := byO_row hby
      have HC5 : Hid (Chg (fun _ => False) w0 w5) := chg_then HC2.out c5
      have HO5 : Hid (ByO w5 w0.heap.size (.slice oa P.length oc) P) := HO2.out.new c5
      have HB5 : Hid (w5.heap[wb]? = some (.cells #[.int .i64 k, .int .i64 s, .int .i64 p, .int .i64 0, .int .i64 0, .int .i64 0] 25 (0, 0))) := blk_keep HB2.out c5 (fun f => f)
      have HG : Hid _ := S.get a5 (P.length + tn) d5 (P ++ ts) w5 (S.keep HT.out HC5.out) hrow (fun x hx => (List.mem_append.1 hx).elim (HDP.out x) (HTS.out.2 x)) hcap (by omega)
      rw [(HTH.out ts trivial).1, HBK.out] at HG
      unfold chv at HG
      simp only at HG
      have hP1 := (HTH.out ts trivial).2
      clear ho5 hg5 hm5 c5 hby hrow hlen hcap hsrc5 hone5 hB5 HO4 HC4 HC3 HC2 HO2 HB2
      go_wp2_with fail
      refine Calls.mono HG.out ?_
      rintro z w6 ⟨rfl, c6⟩
      have c7 := chg_one w6 (.cells #[.int .i64 k, .int .i64 s, .int .i64 p, .int .i64 0, .int .i64 0, .int .i64 0] 25)
      have b7 := heap_alloc_last w6 (.cells #[.int .i64 k, .int .i64 s, .int .i64 p, .int .i64 0, .int .i64 0, .int .i64 0] 25)
      have HC7 : Hid (Chg (fun _ => False) w0 (w6.alloc (.cells #[.int .i64 k, .int .i64 s, .int .i64 p, .int .i64 0, .int .i64 0, .int .i64 0] 25))) := chg_then (chg_then HC5.out c6) c7
      have HO7 : Hid (ByO (w6.alloc (.cells #[.int .i64 k, .int .i64 s, .int .i64 p, .int .i64 0, .int .i64 0, .int .i64 0] 25)) w0.heap.size (.slice oa P.length oc) P) := HO5.out.new (chg_then c6 c7)
      obtain ⟨q0, q1, q2, q3, q4, q5⟩ := cells6 (blk_keep HB5.out (chg_then c6 c7) (fun f => f))
      obtain ⟨r0, r1, r2, r3, r4, r5⟩ := cells6 b7
      have e1 : ((P.length : Int) != (P.length : Int)) = false := by simp
      have e2 : decide ((P.length : Int) < 1) = false := decide_eq_false (by omega)
      have e2' : decide (P.length < 1) = false := decide_eq_false (by omega)
      clear c6 c7 b7 HG HC5 HO5 HB5
      go_upto_region 8 with fail
      generalize w6.alloc (.cells #[.int .i64 k, .int .i64 s, .int .i64 p, .int .i64 0, .int .i64 0, .int .i64 0] 25) = W7 at *
      go_wp2_with fail
      refine Calls.mono (HN.out _ _) ?_
      rintro z w9 ⟨rfl, rfl⟩
      clear q0 q1 q2 q3 q4 q5 r0 r1 r2 r3 r4 r5
      go_wp2_with fail
      go_loopw [75] (fun v wr => ∃ i : Nat, i ≤ P.length ∧ v = .int .i64 (i : Int) ∧ Hid (Chg (fun _ => False) w0 wr ∧ ByO wr w0.heap.size (.slice oa P.length oc) P)) (fun v _ => P.length - (intOf v).toNat)
      case atStart => exact ⟨0, by omega, rfl, HC7.out, HO7.out⟩
      case round =>
        obtain ⟨i, hi, rfl, HW⟩ := hrel
        have hii : (i : Int) ≤ 6 := by omega
        by_cases hin : i < P.length
        · have hd1 : decide (i < P.length) = true := decide_eq_true hin
          obtain ⟨hrow, hlen, hcap⟩ := byO_row HW.out.2
          have hcut : ∀ ww, (Instr.sliceAt 26 (.slice oa P.length oc) none (some (.int .i64 (i : Int))) none).run Tryd.prog ww = .ok (.slice oa i oc) ww := fun ww => run_cutZ_hi undBy elemBy sizeBy _ P.length oc i ww (by omega)
          have HG : Hid _ := S.get oa i oc (P.take i) wr (S.keep HT.out HW.out.1) (row8_take hrow (by omega)) (fun x hx => HDP.out x (List.mem_of_mem_take hx)) (by omega) (by omega)
          rw [HCU.out i trivial hin] at HG
          unfold chv Ck17.zeroC at HG
          simp only at HG
          clear hrow hlen hcap
          go_wp2_with fail
          refine Calls.mono HG.out ?_
          rintro z w8 ⟨rfl, c8⟩
          have c9 := chg_one w8 (.cells #[.int .i64 0, .int .i64 0, .int .i64 0, .int .i64 0, .int .i64 0, .int .i64 0] 25)
          obtain ⟨r0, r1, r2, r3, r4, r5⟩ := cells6 (heap_alloc_last w8 (.cells #[.int .i64 0, .int .i64 0, .int .i64 0, .int .i64 0, .int .i64 0, .int .i64 0] 25))
          have HC9 : Hid (Chg (fun _ => False) w0 (w8.alloc (.cells #[.int .i64 0, .int .i64 0, .int .i64 0, .int .i64 0, .int .i64 0, .int .i64 0] 25)) ∧ ByO (w8.alloc (.cells #[.int .i64 0, .int .i64 0, .int .i64 0, .int .i64 0, .int .i64 0, .int .i64 0] 25)) w0.heap.size (.slice oa P.length oc) P) := ⟨chg_then (chg_then HW.out.1 c8) c9, HW.out.2.new (chg_then c8 c9)⟩
          clear c8 c9 HG HW hcut
          go_upto_region 14 with fail
          generalize w8.alloc (.cells #[.int .i64 0, .int .i64 0, .int .i64 0, .int .i64 0, .int .i64 0, .int .i64 0] 25) = W9 at *
          go_wp2_with fail
          refine Calls.mono (HN.out _ _) ?_
          rintro z w10 ⟨rfl, rfl⟩
          clear r0 r1 r2 r3 r4 r5
          go_wp2_with fail
          exact ⟨⟨i + 1, by omega, by go_num, HC9.out⟩, by simp [intOf]; omega⟩
        · have hd1 : decide (i < P.length) = false := decide_eq_false hin
          have HC8 : Hid (Chg (fun _ => False) w0 wr) := HW.out.1
          clear HW
          go_wp2_with fail
          refine Calls.mono (HK.out _ HC8.out) ?_
          rintro z w9 ⟨rfl, c9⟩
          have HC9 : Hid (Chg (fun _ => False) w0 w9) := chg_then HC8.out c9
          clear c9
          go_wp2
          go_ret
          exact ⟨rfl, HC9.out⟩
    · have d5 : decide (k < 5) = false := decide_eq_false hk5
      have HBK : Hid (Ck17.back ⟨k, s, p, lc, lp, pb⟩ = ⟨k, s, p, lc, lp, pb⟩) := by show _ = _; unfold Ck17.back; rw [if_neg hk5]
      clear hk5
      have c2 := chg_one w1 (.cells #[.int .i64 k, .int .i64 s, .int .i64 p, .int .i64 lc, .int .i64 lp, .int .i64 pb] 25)
      have b2 := heap_alloc_last w1 (.cells #[.int .i64 k, .int .i64 s, .int .i64 p, .int .i64 lc, .int .i64 lp, .int .i64 pb] 25)
      have HC2 : Hid (Chg (fun _ => False) w0 (w1.alloc (.cells #[.int .i64 k, .int .i64 s, .int .i64 p, .int .i64 lc, .int .i64 lp, .int .i64 pb] 25))) := chg_then HC1.out c2
      have HO2 : Hid (ByO (w1.alloc (.cells #[.int .i64 k, .int .i64 s, .int .i64 p, .int .i64 lc, .int .i64 lp, .int .i64 pb] 25)) w0.heap.size (.slice oa P.length oc) P) := HO1.out.new c2
      have HB2 : Hid ((w1.alloc (.cells #[.int .i64 k, .int .i64 s, .int .i64 p, .int .i64 lc, .int .i64 lp, .int .i64 pb] 25)).heap[w1.heap.size]? = some (.cells #[.int .i64 k, .int .i64 s, .int .i64 p, .int .i64 lc, .int .i64 lp, .int .i64 pb] 25 (0, 0))) := b2
      obtain ⟨n0, n1, n2, n3, n4, n5⟩ := cells6 (blk_keep HB1.out (chg_one w1 (.cells #[.int .i64 k, .int .i64 s, .int .i64 p, .int .i64 lc, .int .i64 lp, .int .i64 pb] 25)) (fun f => f))
      clear c2 b2
      go_upto_region 7 with fail
      generalize w1.alloc (.cells #[.int .i64 k, .int .i64 s, .int .i64 p, .int .i64 lc, .int .i64 lp, .int .i64 pb] 25) = W2 at *
      generalize w1.heap.size = wb at *
      clear m0 m1 m2 m3 m4 m5 n0 n1 n2 n3 n4 n5 d5
      have c3 := chg_one W2 (.cells #[] 5)
      have hown3 := own_empty W2 5
      have hr3 := (byO_row (HO2.out.new c3)).1
      have hsrc3 := hr3.src
      have hone3 := oneB P
      have hB3 : W2.heap.size ≤ (W2.alloc (.cells #[] 5)).heap.size := c3.size
      have HC3 : Hid (Chg (fun _ => False) W2 (W2.alloc (.cells #[] 5))) := c3
      clear c3 hr3
      go_wp2_with (at_builtin; refine wpList_append_moved rfl _ _ 26 rfl W2.heap.size 5 iu (.int .u8 0) 1 1 Tryd.underlying26 hiu hu0 hu1 hu2 rfl (by decide) _ 0 [] rfl oa P.length oc rfl ((nums P).map (Value.int .u8)) ?h1 ?h2 ?h3 ?m1 ?m2 ?m3 ?_)
      case h1 => exact hown3
      case h2 => exact hsrc3
      case h3 => exact hone3
      case m1 => unfold maxLen; omega
      case m2 => omega
      case m3 => exact hB3
      intro v4 w4 ho4 hg4 hm4
      have c4 : Chg (fun _ => False) W2 w4 := HC3.out.grown hg4 (fun j e => .inr (by simp [Value.ownBlock] at e; omega))
      try simp only [List.nil_append, Nat.zero_add] at ho4
      obtain ⟨a4, d4, rfl⟩ := form1 ho4
      have HO4 : Hid (w4.ownsRow W2.heap.size 5 1 (.slice a4 P.length d4) P.length ((nums P).map (Value.int .u8))) := ho4
      have HC4 : Hid (Chg (fun _ => False) W2 w4) := c4
      have hsrc5 := (Bk.row8_chg HTS.out.1 (chg_then HC2.out c4)).src
      have hone5 := oneB ts
      have hB5 : W2.heap.size ≤ w4.heap.size := c4.size
      clear ho4 hg4 hm4 c4 hown3 hsrc3 hone3 hB3
      go_wp2_with (at_builtin; refine wpList_append_moved rfl _ _ 26 rfl W2.heap.size 5 iu (.int .u8 0) 1 1 Tryd.underlying26 hiu hu0 hu1 hu2 rfl (by decide) _ P.length ((nums P).map (Value.int .u8)) rfl ta tn tc rfl ((nums ts).map (Value.int .u8)) ?h1 ?h2 ?h3 ?m1 ?m2 ?m3 ?_)
      case h1 => exact HO4.out
      case h2 => exact hsrc5
      case h3 => exact hone5
      case m1 => unfold maxLen; omega
      case m2 => omega
      case m3 => exact hB5
      intro v5 w5 ho5 hg5 hm5
      have c5 : Chg (fun _ => False) W2 w5 := HC4.out.grown hg5 (fun j e => .inr (HO4.out.lt j e).1)
      have hby := byO_app ho5
      obtain ⟨a5, d5, rfl⟩ := form1 ho5
      obtain ⟨hrow, hlen, hcap⟩ := byO_row hby
      have HC5 : Hid (Chg (fun _ => False) w0 w5) := chg_then HC2.out c5
      have HO5 : Hid (ByO w5 w0.heap.size (.slice oa P.length oc) P) := HO2.out.new c5
      have HB5 : Hid (w5.heap[wb]? = some (.cells #[.int .i64 k, .int .i64 s, .int .i64 p, .int .i64 lc, .int .i64 lp, .int .i64 pb] 25 (0, 0))) := blk_keep HB2.out c5 (fun f => f)
      have HG : Hid _ := S.get a5 (P.length + tn) d5 (P ++ ts) w5 (S.keep HT.out HC5.out) hrow (fun x hx => (List.mem_append.1 hx).elim (HDP.out x) (HTS.out.2 x)) hcap (by omega)
      rw [(HTH.out ts trivial).1, HBK.out] at HG
      unfold chv at HG
      simp only at HG
      have hP1 := (HTH.out ts trivial).2
      clear ho5 hg5 hm5 c5 hby hrow hlen hcap hsrc5 hone5 hB5 HO4 HC4 HC3 HC2 HO2 HB2
      go_wp2_with fail
      refine Calls.mono HG.out ?_
      rintro z w6 ⟨rfl, c6⟩
      have c7 := chg_one w6 (.cells #[.int .i64 k, .int .i64 s, .int .i64 p, .int .i64 lc, .int .i64 lp, .int .i64 pb] 25)
      have b7 := heap_alloc_last w6 (.cells #[.int .i64 k, .int .i64 s, .int .i64 p, .int .i64 lc, .int .i64 lp, .int .i64 pb] 25)
      have HC7 : Hid (Chg (fun _ => False) w0 (w6.alloc (.cells #[.int .i64 k, .int .i64 s, .int .i64 p, .int .i64 lc, .int .i64 lp, .int .i64 pb] 25))) := chg_then (chg_then HC5.out c6) c7
      have HO7 : Hid (ByO (w6.alloc (.cells #[.int .i64 k, .int .i64 s, .int .i64 p, .int .i64 lc, .int .i64 lp, .int .i64 pb] 25)) w0.heap.size (.slice oa P.length oc) P) := HO5.out.new (chg_then c6 c7)
      obtain ⟨q0, q1, q2, q3, q4, q5⟩ := cells6 (blk_keep HB5.out (chg_then c6 c7) (fun f => f))
      obtain ⟨r0, r1, r2, r3, r4, r5⟩ := cells6 b7
      have e1 : ((P.length : Int) != (P.length : Int)) = false := by simp
      have e2 : decide ((P.length : Int) < 1) = false := decide_eq_false (by omega)
      have e2' : decide (P.length < 1) = false := decide_eq_false (by omega)
      clear c6 c7 b7 HG HC5 HO5 HB5
      go_upto_region 8 with fail
      generalize w6.alloc (.cells #[.int .i64 k, .int .i64 s, .int .i64 p, .int .i64 lc, .int .i64 lp, .int .i64 pb] 25) = W7 at *
      go_wp2_with fail
      refine Calls.mono (HN.out _ _) ?_
      rintro z w9 ⟨rfl, rfl⟩
      clear q0 q1 q2 q3 q4 q5 r0 r1 r2 r3 r4 r5
      go_wp2_with fail
      go_loopw [75] (fun v wr => ∃ i : Nat, i ≤ P.length ∧ v = .int .i64 (i : Int) ∧ Hid (Chg (fun _ => False) w0 wr ∧ ByO wr w0.heap.size (.slice oa P.length oc) P)) (fun v _ => P.length - (intOf v).toNat)
      case atStart => exact ⟨0, by omega, rfl, HC7.out, HO7.out⟩
      case round =>
        obtain ⟨i, hi, rfl, HW⟩ := hrel
        have hii : (i : Int) ≤ 6 := by omega
        by_cases hin : i < P.length
        · have hd1 : decide (i < P.length) = true := decide_eq_true hin
          obtain ⟨hrow, hlen, hcap⟩ := byO_row HW.out.2
          have hcut : ∀ ww, (Instr.sliceAt 26 (.slice oa P.length oc) none (some (.int .i64 (i : Int))) none).run Tryd.prog ww = .ok (.slice oa i oc) ww := fun ww => run_cutZ_hi undBy elemBy sizeBy _ P.length oc i ww (by omega)
          have HG : Hid _ := S.get oa i oc (P.take i) wr (S.keep HT.out HW.out.1) (row8_take hrow (by omega)) (fun x hx => HDP.out x (List.mem_of_mem_take hx)) (by omega) (by omega)
          rw [HCU.out i trivial hin] at HG
          unfold chv Ck17.zeroC at HG
          simp only at HG
          clear hrow hlen hcap
          go_wp2_with fail
          refine Calls.mono HG.out ?_
          rintro z w8 ⟨rfl, c8⟩
          have c9 := chg_one w8 (.cells #[.int .i64 0, .int .i64 0, .int .i64 0, .int .i64 0, .int .i64 0, .int .i64 0] 25)
          obtain ⟨r0, r1, r2, r3, r4, r5⟩ := cells6 (heap_alloc_last w8 (.cells #[.int .i64 0, .int .i64 0, .int .i64 0, .int .i64 0, .int .i64 0, .int .i64 0] 25))
          have HC9 : Hid (Chg (fun _ => False) w0 (w8.alloc (.cells #[.int .i64 0, .int .i64 0, .int .i64 0, .int .i64 0, .int .i64 0, .int .i64 0] 25)) ∧ ByO (w8.alloc (.cells #[.int .i64 0, .int .i64 0, .int .i64 0, .int .i64 0, .int .i64 0, .int .i64 0] 25)) w0.heap.size (.slice oa P.length oc) P) := ⟨chg_then (chg_then HW.out.1 c8) c9, HW.out.2.new (chg_then c8 c9)⟩
          clear c8 c9 HG HW hcut
          go_upto_region 14 with fail
          generalize w8.alloc (.cells #[.int .i64 0, .int .i64 0, .int .i64 0, .int .i64 0, .int .i64 0, .int .i64 0] 25) = W9 at *
          go_wp2_with fail
          refine Calls.mono (HN.out _ _) ?_
          rintro z w10 ⟨rfl, rfl⟩
          clear r0 r1 r2 r3 r4 r5
          go_wp2_with fail
          exact ⟨⟨i + 1, by omega, by go_num, HC9.out⟩, by simp [intOf]; omega⟩
        · have hd1 : decide (i < P.length) = false := decide_eq_false hin
          have HC8 : Hid (Chg (fun _ => False) w0 wr) := HW.out.1
          clear HW
          go_wp2_with fail
          refine Calls.mono (HK.out _ HC8.out) ?_
          rintro z w9 ⟨rfl, c9⟩
          have HC9 : Hid (Chg (fun _ => False) w0 w9) := chg_then HC8.out c9
          clear c9
          go_wp2
          go_ret
          exact ⟨rfl, HC9.out⟩
end Go.Proofs.YtannepoclpmedaaDoor
