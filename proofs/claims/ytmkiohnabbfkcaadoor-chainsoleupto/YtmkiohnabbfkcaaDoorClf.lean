/- The program's filter and Of; of no statement by itself. -/
import Derived.Test.YtmkiohnabbfkcaaDoorClb
import Derived.Test.YtmkiohnabbfkcaaDoorFlo
namespace Go.Proofs.YtmkiohnabbfkcaaDoor
open Go.RowKit
open St12
set_option linter.unusedVariables false
set_option linter.unusedSimpArgs false
set_option maxHeartbeats 4000000 in
set_option maxRecDepth 100000 in
theorem filter20_any (id x : Nat) (hx : x ≤ 255) (w : World) : Calls Tryd.prog 30 #[.int .u64 (id : Int), .int .i64 (x : Int)] w fun e w' => ∃ pa pc, e = .returned (.agg #[.int .u64 (id : Int), .slice pa 1 pc]) ∧ ByO w' w.heap.size (.slice pa 1 pc) [x] ∧ Chg (fun _ => False) w w' := by
  obtain ⟨y, hy⟩ : ∃ y : Int, (id : Int) = y := ⟨_, rfl⟩
  rw [hy]
  have hw : IntKind.u8.wrap (x : Int) = (x : Int) := wr8 (by omega) (by omega)
  have cA := chg_one w (.cells #[.int .u64 y, .slice (some ⟨w.heap.size + 1, 0, none⟩) 1 1] 36)
  have cB := chg_one (w.alloc (.cells #[.int .u64 y, .slice (some ⟨w.heap.size + 1, 0, none⟩) 1 1] 36)) (.cells #[.int .u8 (x : Int)] 5)
  have hb := own_lit1 (w.alloc (.cells #[.int .u64 y, .slice (some ⟨w.heap.size + 1, 0, none⟩) 1 1] 36)) x
  rw [World.size_alloc] at hb
  have bA := blk_keep (heap_alloc_last w (.cells #[.int .u64 y, .slice (some ⟨w.heap.size + 1, 0, none⟩) 1 1] 36)) cB (fun f => f)
  have q0 := cell0 bA
  have q1 := cell1 bA
  have HB : Hid _ := hb
  have HC : Hid _ := chg_then cA cB
  have hi : (x : Int) ≤ 255 := by omega
  clear cA cB hy hb bA
  go_enter Tryd.func30, Tryd.ntmps30
  go_wp2
  refine bodyPost_ret (v := .agg #[.int .u64 y, .slice (some ⟨w.heap.size + 1, 0, none⟩) 1 1]) (by simp [results, Tryd.results30, go_sem, q0, q1]) rfl ?_
  exact ⟨_, _, rfl, owns_base HB.out (by omega), HC.out⟩
set_option maxHeartbeats 8000000 in
set_option maxRecDepth 100000 in
theorem of20_any (ch de lc lp pb di bl mo : Int) (hI : (⟨ch, de, lc, lp, pb, di, bl, mo⟩ : Cfg).I) (w : World) : Calls Tryd.prog 15 #[.agg #[.int .i64 ch, .int .i64 de, .int .i64 lc, .int .i64 lp, .int .i64 pb, .int .i64 di, .int .i64 bl, .int .i64 mo]] w fun e w' => ∃ ad n cp l, e = .returned (.tuple #[.slice ad n cp, .int .i64 (Cn20.ofF ⟨ch, de, lc, lp, pb, di, bl, mo⟩).2]) ∧ FlL w' ad l ∧ l.length = n ∧ l.map FlV.f = (Cn20.ofF ⟨ch, de, lc, lp, pb, di, bl, mo⟩).1 ∧ Chg (fun _ => False) w w' := by
  obtain ⟨jf, hjf, hf0, hf1, hf2⟩ := info_parts infoFl
  have cA := chg_one w (.cells #[.int .i64 ch, .int .i64 de, .int .i64 lc, .int .i64 lp, .int .i64 pb, .int .i64 di, .int .i64 bl, .int .i64 mo] 27)
  have bA := heap_alloc_last w (.cells #[.int .i64 ch, .int .i64 de, .int .i64 lc, .int .i64 lp, .int .i64 pb, .int .i64 di, .int .i64 bl, .int .i64 mo] 27)
  obtain ⟨q0, q1, q2, q3, q4, q5, q6, q7⟩ := cells8f bA
  have HCA : Hid (Chg (fun _ => False) w (w.alloc (.cells #[.int .i64 ch, .int .i64 de, .int .i64 lc, .int .i64 lp, .int .i64 pb, .int .i64 di, .int .i64 bl, .int .i64 mo] 27))) := cA
  have HLG : Hid _ := legal20_any ch de lc lp pb di bl mo hI (w.alloc (.cells #[.int .i64 ch, .int .i64 de, .int .i64 lc, .int .i64 lp, .int .i64 pb, .int .i64 di, .int .i64 bl, .int .i64 mo] 27))
  by_cases hl : Cn20.legal ⟨ch, de, lc, lp, pb, di, bl, mo⟩ = 0
  · rw [hl] at HLG
    have hr := hl
    unfold Cn20.legal at hr
    split at hr
    · rename_i hc
      simp only at hc
      obtain ⟨_, _, k1, k2, k3, k4, _⟩ := hc
      obtain ⟨bq, hdb, hbq, _⟩ := Ck17.dictB_in (n := di) (by omega) (by omega)
      have HO : Hid (Cn20.ofF ⟨ch, de, lc, lp, pb, di, bl, mo⟩ = ((if de = 0 then [] else [⟨3, [(de - 1).toNat]⟩]) ++ [⟨33, [bq]⟩], 0)) := by
        show _ = _
        unfold Cn20.ofF
        rw [if_neg (by simpa using hl)]
        simp only [hdb, Int.toNat_natCast]
      have HD : Hid (∀ w : World, Calls Tryd.prog 29 #[.int .i64 di] w fun e w' => e = .returned (.tuple #[.int .i64 (bq : Int), .int .i64 0]) ∧ Chg (fun _ => False) w w') := fun w => by
        have := db17_any di (by unfold I64; omega) w
        rw [hdb] at this
        exact this
      have hbi : (bq : Int) ≤ 40 := by omega
      clear hr hl hdb hI cA bA
      by_cases hd : de = 0
      · subst hd
        have HO2 : Hid (Cn20.ofF ⟨ch, 0, lc, lp, pb, di, bl, mo⟩ = ([⟨33, [bq]⟩], 0)) := by
          show _ = _
          rw [HO.out, if_pos rfl]
          rfl
        have HV : Hid (bq ≤ 40) := hbq
        clear HO
        go_enter Tryd.func15, Tryd.ntmps15
        go_wp2_with fail
        refine Calls.mono HLG.out ?_
        rintro z w1 ⟨rfl, c1⟩
        have p1 := cell_chg q1 c1
        have p3 := cell_chg q5 c1
        have HC1 : Hid (Chg (fun _ => False) w w1) := chg_then HCA.out c1
        clear c1 q0 q1 q2 q3 q4 q5 q6 q7 HCA HLG
        go_wp2_with fail
        refine Calls.mono (HD.out w1) ?_
        rintro z w2 ⟨rfl, c2⟩
        have r1 := cell_chg p1 c2
        have HC2 : Hid (Chg (fun _ => False) w w2) := chg_then HC1.out c2
        have HCb1 : Hid (Chg (fun _ => False) w2 w2) := Chg.refl _ _
        have HSZ1 : Hid (w2.heap.size ≤ w2.heap.size) := Nat.le_refl _
        have HFq1 : Hid (Of0 w2.heap.size w2 (.slice none 0 0) ([] : List FlV)) := Of0.nil _ _
        clear c2 p1 p3 HC1 HD
        have HFx1 : Hid _ := filter20_any 33 bq (by have := HV.out; omega) w2
        go_wp2_with fail
        refine Calls.mono HFx1.out ?_
        rintro z v1 ⟨pa1, pc1, rfl, hb1, c1⟩
        have cC1 := chg_one v1 (.cells #[.int .u64 33, .slice pa1 1 pc1] 36)
        have HFo1 : Hid (Of0 w2.heap.size (v1.alloc (.cells #[.int .u64 33, .slice pa1 1 pc1] 36)) (.slice none 0 0) ([] : List FlV)) := HFq1.out.new (chg_then c1 cC1)
        have hown1 : (v1.alloc (.cells #[.int .u64 33, .slice pa1 1 pc1] 36)).ownsRow w2.heap.size 36 2 (.slice none 0 0) 0 (flcs ([] : List FlV)) := HFo1.out.own
        have hsrc1 : From (v1.alloc (.cells #[.int .u64 33, .slice pa1 1 pc1] 36)) (some ⟨v1.heap.size, 0, none⟩) 1 1 2 (flcs [⟨33, pa1, 1, pc1, [bq]⟩]) := from_fl v1 ⟨33, pa1, 1, pc1, [bq]⟩ 36
        have hone1 := flcs_cell [⟨33, pa1, 1, pc1, [bq]⟩]
        have HPC1 : Hid (ByO (v1.alloc (.cells #[.int .u64 33, .slice pa1 1 pc1] 36)) w2.heap.size (.slice pa1 1 pc1) [bq]) := owns_base (ByO.new hb1 cC1) HSZ1.out
        have hBs1 : w2.heap.size ≤ (v1.alloc (.cells #[.int .u64 33, .slice pa1 1 pc1] 36)).heap.size := Nat.le_trans HSZ1.out (chg_then c1 cC1).size
        have HCC1 : Hid (Chg (fun _ => False) w2 (v1.alloc (.cells #[.int .u64 33, .slice pa1 1 pc1] 36))) := chg_then c1 cC1
        clear c1 cC1 hb1
        go_wp2_with (at_builtin; refine wpList_append_moved rfl _ _ 22 rfl w2.heap.size 36 jf (.agg #[.int .u64 0, .slice none 0 0]) 2 32 Tryd.underlying22 hjf hf0 hf1 hf2 rfl (by decide) _ 0 (flcs ([] : List FlV)) rfl (some ⟨v1.heap.size, 0, none⟩) 1 1 rfl (flcs [⟨33, pa1, 1, pc1, [bq]⟩]) ?k1 ?l1 ?m1 ?n1 ?o1 ?p1 ?_)
        case k1 => exact hown1
        case l1 => exact hsrc1
        case m1 => exact hone1
        case n1 => unfold maxLen; omega
        case o1 => omega
        case p1 => exact hBs1
        intro l1 u1 ho1 hg1 hm1
        have HFn1 : Hid (Of0 w2.heap.size u1 l1 (([] : List FlV) ++ [⟨33, pa1, 1, pc1, [bq]⟩])) := HFo1.out.push (x := ⟨33, pa1, 1, pc1, [bq]⟩) ⟨HPC1.out, by show (33 : Nat) < _; decide, fun x hx => by simp at hx; have := HV.out; omega, by show (1 : Nat) ≤ _; decide⟩ rfl (by simpa using ho1) hg1
        have HCn1 : Hid (Chg (fun _ => False) w2 u1) := (chg_then HCb1.out HCC1.out).trans ((Chg.refl (fun g => ((.slice none 0 0) : Value).ownBlock = some g) _).grown hg1 (fun g e => .inl e)) (fun g e => .inr ((HFo1.out.own.lt g e).1))
        obtain ⟨al1, cl1, rfl⟩ := formF ho1
        clear ho1 hg1 hm1 hown1 hsrc1 hone1 hBs1 HPC1 HCC1 HFo1 HFx1
        go_wp2
        go_ret2
        exact ⟨al1, _, cl1, _, by rw [HO2.out]; rfl, HFn1.out.L, rfl, by rw [HO2.out]; rfl, chg_then HC2.out HCn1.out⟩
      · have d0 : (de != 0) = true := by simp [hd]
        obtain ⟨v, hv⟩ : ∃ v : Nat, de - 1 = (v : Int) := ⟨(de - 1).toNat, by omega⟩
        have hvi : (v : Int) ≤ 255 := by omega
        have HO2 : Hid (Cn20.ofF ⟨ch, de, lc, lp, pb, di, bl, mo⟩ = ([⟨3, [v]⟩, ⟨33, [bq]⟩], 0)) := by
          show _ = _
          rw [HO.out, if_neg hd, hv, Int.toNat_natCast]
          rfl
        have HV : Hid (de - 1 = (v : Int) ∧ v ≤ 255 ∧ bq ≤ 40) := ⟨hv, by omega, hbq⟩
        have hde : de ≤ 256 := k2
        have hde0 : 0 ≤ de := k1
        clear HO hd
        go_enter Tryd.func15, Tryd.ntmps15
        go_wp2_with fail
        refine Calls.mono HLG.out ?_
        rintro z w1 ⟨rfl, c1⟩
        have p1 := cell_chg q1 c1
        have p3 := cell_chg q5 c1
        have HC1 : Hid (Chg (fun _ => False) w w1) := chg_then HCA.out c1
        clear c1 q0 q1 q2 q3 q4 q5 q6 q7 HCA HLG
        go_wp2_with fail
        refine Calls.mono (HD.out w1) ?_
        rintro z w2 ⟨rfl, c2⟩
        have r1 := cell_chg p1 c2
        have HC2 : Hid (Chg (fun _ => False) w w2) := chg_then HC1.out c2
        have HCb1 : Hid (Chg (fun _ => False) w2 w2) := Chg.refl _ _
        have HSZ1 : Hid (w2.heap.size ≤ w2.heap.size) := Nat.le_refl _
        have HFq1 : Hid (Of0 w2.heap.size w2 (.slice none 0 0) ([] : List FlV)) := Of0.nil _ _
        clear c2 p1 p3 HC1 HD
        have HFx1 : Hid _ := filter20_any 3 v HV.out.2.1 w2
        go_wp2_with fail
        refine Calls.mono HFx1.out ?_
        rintro z v1 ⟨pa1, pc1, rfl, hb1, c1⟩
        have cC1 := chg_one v1 (.cells #[.int .u64 3, .slice pa1 1 pc1] 36)
        have HFo1 : Hid (Of0 w2.heap.size (v1.alloc (.cells #[.int .u64 3, .slice pa1 1 pc1] 36)) (.slice none 0 0) ([] : List FlV)) := HFq1.out.new (chg_then c1 cC1)
        have hown1 : (v1.alloc (.cells #[.int .u64 3, .slice pa1 1 pc1] 36)).ownsRow w2.heap.size 36 2 (.slice none 0 0) 0 (flcs ([] : List FlV)) := HFo1.out.own
        have hsrc1 : From (v1.alloc (.cells #[.int .u64 3, .slice pa1 1 pc1] 36)) (some ⟨v1.heap.size, 0, none⟩) 1 1 2 (flcs [⟨3, pa1, 1, pc1, [v]⟩]) := from_fl v1 ⟨3, pa1, 1, pc1, [v]⟩ 36
        have hone1 := flcs_cell [⟨3, pa1, 1, pc1, [v]⟩]
        have HPC1 : Hid (ByO (v1.alloc (.cells #[.int .u64 3, .slice pa1 1 pc1] 36)) w2.heap.size (.slice pa1 1 pc1) [v]) := owns_base (ByO.new hb1 cC1) HSZ1.out
        have hBs1 : w2.heap.size ≤ (v1.alloc (.cells #[.int .u64 3, .slice pa1 1 pc1] 36)).heap.size := Nat.le_trans HSZ1.out (chg_then c1 cC1).size
        have HCC1 : Hid (Chg (fun _ => False) w2 (v1.alloc (.cells #[.int .u64 3, .slice pa1 1 pc1] 36))) := chg_then c1 cC1
        clear c1 cC1 hb1
        go_wp2_with (at_builtin; refine wpList_append_moved rfl _ _ 22 rfl w2.heap.size 36 jf (.agg #[.int .u64 0, .slice none 0 0]) 2 32 Tryd.underlying22 hjf hf0 hf1 hf2 rfl (by decide) _ 0 (flcs ([] : List FlV)) rfl (some ⟨v1.heap.size, 0, none⟩) 1 1 rfl (flcs [⟨3, pa1, 1, pc1, [v]⟩]) ?k1 ?l1 ?m1 ?n1 ?o1 ?p1 ?_)
        case k1 => exact hown1
        case l1 => exact hsrc1
        case m1 => exact hone1
        case n1 => unfold maxLen; omega
        case o1 => omega
        case p1 => exact hBs1
        intro l1 u1 ho1 hg1 hm1
        have HFn1 : Hid (Of0 w2.heap.size u1 l1 (([] : List FlV) ++ [⟨3, pa1, 1, pc1, [v]⟩])) := HFo1.out.push (x := ⟨3, pa1, 1, pc1, [v]⟩) ⟨HPC1.out, by show (3 : Nat) < _; decide, fun x hx => by simp at hx; have := HV.out; omega, by show (1 : Nat) ≤ _; decide⟩ rfl (by simpa using ho1) hg1
        have HCn1 : Hid (Chg (fun _ => False) w2 u1) := (chg_then HCb1.out HCC1.out).trans ((Chg.refl (fun g => ((.slice none 0 0) : Value).ownBlock = some g) _).grown hg1 (fun g e => .inl e)) (fun g e => .inr ((HFo1.out.own.lt g e).1))
        obtain ⟨al1, cl1, rfl⟩ := formF ho1
        clear ho1 hg1 hm1 hown1 hsrc1 hone1 hBs1 HPC1 HCC1 HFo1 HFx1
        try simp only [Nat.zero_add]
        have HCb2 : Hid (Chg (fun _ => False) w2 u1) := HCn1.out
        have HSZ2 : Hid (w2.heap.size ≤ u1.heap.size) := HCn1.out.size
        have HFq2 : Hid (Of0 w2.heap.size u1 (.slice al1 1 cl1) [⟨3, pa1, 1, pc1, [v]⟩]) := HFn1.out
        clear r1 HFq1 HCb1 HSZ1
        have HFx2 : Hid _ := filter20_any 33 bq (by have := HV.out; omega) u1
        go_wp2_with fail
        refine Calls.mono HFx2.out ?_
        rintro z v2 ⟨pa2, pc2, rfl, hb2, c2⟩
        have cC2 := chg_one v2 (.cells #[.int .u64 33, .slice pa2 1 pc2] 36)
        have HFo2 : Hid (Of0 w2.heap.size (v2.alloc (.cells #[.int .u64 33, .slice pa2 1 pc2] 36)) (.slice al1 1 cl1) [⟨3, pa1, 1, pc1, [v]⟩]) := HFq2.out.new (chg_then c2 cC2)
        have hown2 : (v2.alloc (.cells #[.int .u64 33, .slice pa2 1 pc2] 36)).ownsRow w2.heap.size 36 2 (.slice al1 1 cl1) 1 (flcs [⟨3, pa1, 1, pc1, [v]⟩]) := HFo2.out.own
        have hsrc2 : From (v2.alloc (.cells #[.int .u64 33, .slice pa2 1 pc2] 36)) (some ⟨v2.heap.size, 0, none⟩) 1 1 2 (flcs [⟨33, pa2, 1, pc2, [bq]⟩]) := from_fl v2 ⟨33, pa2, 1, pc2, [bq]⟩ 36
        have hone2 := flcs_cell [⟨33, pa2, 1, pc2, [bq]⟩]
        have HPC2 : Hid (ByO (v2.alloc (.cells #[.int .u64 33, .slice pa2 1 pc2] 36)) w2.heap.size (.slice pa2 1 pc2) [bq]) := owns_base (ByO.new hb2 cC2) HSZ2.out
        have hBs2 : w2.heap.size ≤ (v2.alloc (.cells #[.int .u64 33, .slice pa2 1 pc2] 36)).heap.size := Nat.le_trans HSZ2.out (chg_then c2 cC2).size
        have HCC2 : Hid (Chg (fun _ => False) u1 (v2.alloc (.cells #[.int .u64 33, .slice pa2 1 pc2] 36))) := chg_then c2 cC2
        clear c2 cC2 hb2
        go_wp2_with (at_builtin; refine wpList_append_moved rfl _ _ 22 rfl w2.heap.size 36 jf (.agg #[.int .u64 0, .slice none 0 0]) 2 32 Tryd.underlying22 hjf hf0 hf1 hf2 rfl (by decide) _ 1 (flcs [⟨3, pa1, 1, pc1, [v]⟩]) rfl (some ⟨v2.heap.size, 0, none⟩) 1 1 rfl (flcs [⟨33, pa2, 1, pc2, [bq]⟩]) ?k2 ?l2 ?m2 ?n2 ?o2 ?p2 ?_)
        case k2 => exact hown2
        case l2 => exact hsrc2
        case m2 => exact hone2
        case n2 => unfold maxLen; omega
        case o2 => omega
        case p2 => exact hBs2
        intro l2 u2 ho2 hg2 hm2
        have HFn2 : Hid (Of0 w2.heap.size u2 l2 ([⟨3, pa1, 1, pc1, [v]⟩] ++ [⟨33, pa2, 1, pc2, [bq]⟩])) := HFo2.out.push (x := ⟨33, pa2, 1, pc2, [bq]⟩) ⟨HPC2.out, by show (33 : Nat) < _; decide, fun x hx => by simp at hx; have := HV.out; omega, by show (1 : Nat) ≤ _; decide⟩ rfl (by simpa using ho2) hg2
        have HCn2 : Hid (Chg (fun _ => False) w2 u2) := (chg_then HCb2.out HCC2.out).trans ((Chg.refl (fun g => ((.slice al1 1 cl1) : Value).ownBlock = some g) _).grown hg2 (fun g e => .inl e)) (fun g e => .inr ((HFo2.out.own.lt g e).1))
        obtain ⟨al2, cl2, rfl⟩ := formF ho2
        clear ho2 hg2 hm2 hown2 hsrc2 hone2 hBs2 HPC2 HCC2 HFo2 HFx2
        go_wp2
        go_ret2
        exact ⟨al2, _, cl2, _, by rw [HO2.out]; rfl, HFn2.out.L, rfl, by rw [HO2.out]; rfl, chg_then HC2.out HCn2.out⟩
    · exact absurd hr (by decide)
  · have HO : Hid (Cn20.ofF ⟨ch, de, lc, lp, pb, di, bl, mo⟩ = ([], 6)) := by
      show _ = _
      unfold Cn20.ofF
      rw [if_pos (by exact hl)]
    have h6 : Cn20.legal ⟨ch, de, lc, lp, pb, di, bl, mo⟩ = 6 := by
      unfold Cn20.legal at hl ⊢
      split at hl
      · exact absurd rfl hl
      · rename_i h; rw [if_neg h]
    rw [h6] at HLG
    clear hI cA bA hl h6
    go_enter Tryd.func15, Tryd.ntmps15
    go_wp2_with fail
    refine Calls.mono HLG.out ?_
    rintro z w1 ⟨rfl, c1⟩
    have HC1 : Hid (Chg (fun _ => False) w w1) := chg_then HCA.out c1
    clear c1
    go_wp2
    go_ret2
    exact ⟨none, 0, 0, [], by rw [HO.out]; rfl, FlL.nil _ _, rfl, by rw [HO.out]; rfl, HC1.out⟩
end Go.Proofs.YtmkiohnabbfkcaaDoor
