/- VarintApart holds: for every two numbers and every int handed to the statement's function the call returns true and the arguments read afterwards as they did; the table of bounds is as the program's text lays it. -/
import Derived.Test.YtkjjcdkobapedaaDoorStr
import Derived.Test.YtkjjcdkobapedaaDoorCards
import Derived.Test.YtkjjcdkobapedaaDoorTie
import Derived.SevenTiedAt
namespace Go.Proofs.YtkjjcdkobapedaaDoor.varintApart
open Go.ChangeShapes Go.WideShapes Go.ChangeAt Go.RowKit
set_option linter.unusedVariables false

/-- P2.5: no number's bytes are the beginning of another's. -/
theorem vb_apart {v u : Int} (hv0 : 0 ≤ v) (hv1 : v ≤ 9223372036854775807) (hu0 : 0 ≤ u) (hu1 : u ≤ 9223372036854775807) (hle : sz v ≤ sz u) (h : (vb v).take (sz v) = (vb u).take (sz v)) : v = u := by
  have hv := sz_pow hv1
  have hlast : ((vb v).take (sz v))[sz v - 1]? = ((vb u).take (sz v))[sz v - 1]? := by rw [h]
  rw [List.getElem?_take, List.getElem?_take, if_pos (by omega), vb_get (by omega), vb_get (by omega), if_neg (by omega)] at hlast
  have e : sz v = sz u := by
    by_cases e : sz v = sz u
    · exact e
    · rw [if_pos (by omega)] at hlast
      simp only [Option.some.injEq] at hlast
      have := dg_bd v (sz v - 1)
      have := dg_bd u (sz v - 1)
      omega
  rw [List.take_of_length_le (by rw [vb_length]; omega), List.take_of_length_le (by rw [vb_length]; omega)] at h
  rw [← vb_wt v hv0 hv1, h, vb_wt u hu0 hu1]

theorem same_iff {v u : Int} (hv0 : 0 ≤ v) (hv1 : v ≤ 9223372036854775807) (hu0 : 0 ≤ u) (hu1 : u ≤ 9223372036854775807) (r : Nat) (hr : r = sz v ∧ sz v ≤ sz u ∨ r = sz u ∧ sz u ≤ sz v) :
    ((strOfNums ((vb v).take r)).toList == (strOfNums ((vb u).take r)).toList) = (v == u) := by
  by_cases e : v = u
  · subst e; simp
  · have h1 : (v == u) = false := beq_eq_false_iff_ne.2 e
    rw [h1]
    refine beq_eq_false_iff_ne.2 (fun h => e ?_)
    have h2 := str_inj ((vb_bytes v).take r) ((vb_bytes u).take r) h
    rcases hr with ⟨rfl, hl⟩ | ⟨rfl, hl⟩
    · exact vb_apart hv0 hv1 hu0 hu1 hl h2
    · exact (vb_apart hu0 hu1 hv0 hv1 hl h2.symm).symm

set_option maxHeartbeats 1000000 in
theorem walk_le (a b cut v u : Int) (n1 n2 : Nat) (hv : bits .and .u64 a 9223372036854775807 = v) (hu : bits .and .u64 b 9223372036854775807 = u) (hv0 : 0 ≤ v) (hv1 : v ≤ 9223372036854775807) (hu0 : 0 ≤ u) (hu1 : u ≤ 9223372036854775807)
    (hn1 : Hid (sz v = n1)) (hn2 : Hid (sz u = n2)) (hle : n1 ≤ n2) (l1 : 1 ≤ n1) (l2 : 1 ≤ n2) (l9 : n2 ≤ 9) (l8 : n1 ≤ 9) (w : World) (hT : Tab w) :
    Calls Tryd.prog 6 #[.int .u64 a, .int .u64 b, .int .i64 cut] w fun e w' => e = .returned (.bool true) ∧ Below w.heap.size w w' := by
  go_enter Tryd.func6, Tryd.ntmps6
  go_wp2_with fail
  refine (put_any _ _ hT hv0 hv1).mono ?_
  rintro e w1 ⟨rfl, hb1, hc1⟩
  have hT1 := hT.new hc1
  have hs1 : w.heap.size < w1.heap.size := lt_of_blk hb1
  rw [hn1.out]
  clear hT
  go_wp2_with fail
  refine (put_any _ _ hT1 hu0 hu1).mono ?_
  rintro e w2 ⟨rfl, hb2, hc2⟩
  have hs2 : w1.heap.size < w2.heap.size := lt_of_blk hb2
  rw [hn2.out]
  go_wp2_with fail
  refine (num_any _ _).mono ?_
  rintro e w3 ⟨rfl, rfl⟩
  go_wp2_with fail
  refine (num_any _ _).mono ?_
  rintro e w3 ⟨rfl, rfl⟩
  have hr1 := row8_blk (blk_keep hb1 hc2 (fun f => f)) n1 (by rw [vb_length, hn1.out]) n1
  have hr2 := row8_blk hb2 n2 (by rw [vb_length, hn2.out]) n2
  have hq1 := conv8 (row8_take hr1 n1 (by omega))
  have hq2 := conv8 (row8_take hr2 n1 (by omega))
  have hq : ((strOfNums ((vb v).take n1)).toList == (strOfNums ((vb u).take n1)).toList) = (v == u) := same_iff hv0 hv1 hu0 hu1 n1 (by have := hn1.out; have := hn2.out; omega)
  have HR : Hid (Row8 w2 (some ⟨w.heap.size, 0, none⟩) n1 n1 (vb v)) := hr1
  have hC : Chg (fun _ => False) w w2 := hc1.trans hc2 (fun _ f => f.elim)
  generalize strOfNums ((vb v).take n1) = s1 at *
  generalize strOfNums ((vb u).take n1) = s2 at *
  clear hr1 hr2 hb1 hb2 hc1 hc2 hT1
  go_wp2_with fail
  go_quiet (fail)
  have hC2 : Chg (fun _ => False) w (w2.drewN nq) := hC.trans (chg_drewN (S := fun _ => False) w2 nq) (fun _ f => f.elim)
  have HR2 : Hid (Row8 (w2.drewN nq) (some ⟨w.heap.size, 0, none⟩) n1 n1 (vb v)) := row8_chg HR.out (chg_drewN w2 nq)
  clear hq1 hq2 HR hC
  by_cases c0 : cut < 0
  · go_wp2
    go_ret
    exact ⟨rfl, hC2.below (Nat.le_refl _) (fun _ f => f.elim)⟩
  · by_cases c1 : (n1 : Int) ≤ cut
    · go_wp2
      go_ret
      exact ⟨rfl, hC2.below (Nat.le_refl _) (fun _ f => f.elim)⟩
    · obtain ⟨c, rfl⟩ := Int.eq_ofNat_of_zero_le (show 0 ≤ cut by omega)
      have hg := get_any _ _ _ _ _ (row8_take HR2.out c (by omega)) ((vb_bytes v).take c) (show c ≤ n1 by omega) (by omega)
      have hcut : ∀ x n e, GetIs ((vb v).take c) x n e → x = 0 ∧ n = 0 ∧ e = 1 := fun x n e h => get_cut hv1 (by have := hn1.out; omega) h
      go_wp2_with fail
      refine hg.mono ?_
      rintro e w4 ⟨y, m, e, rfl, hgi, rfl⟩
      obtain ⟨rfl, rfl, rfl⟩ := hcut y m e hgi
      clear hgi hg hcut
      go_wp2_with fail
      refine (num_any _ _).mono ?_
      rintro e w4 ⟨rfl, rfl⟩
      go_wp2
      go_ret
      exact ⟨rfl, hC2.below (Nat.le_refl _) (fun _ f => f.elim)⟩

set_option maxHeartbeats 1000000 in
theorem walk_gt (a b cut v u : Int) (n1 n2 : Nat) (hv : bits .and .u64 a 9223372036854775807 = v) (hu : bits .and .u64 b 9223372036854775807 = u) (hv0 : 0 ≤ v) (hv1 : v ≤ 9223372036854775807) (hu0 : 0 ≤ u) (hu1 : u ≤ 9223372036854775807)
    (hn1 : Hid (sz v = n1)) (hn2 : Hid (sz u = n2)) (hle : n2 < n1) (l1 : 1 ≤ n1) (l2 : 1 ≤ n2) (l9 : n2 ≤ 9) (l8 : n1 ≤ 9) (w : World) (hT : Tab w) :
    Calls Tryd.prog 6 #[.int .u64 a, .int .u64 b, .int .i64 cut] w fun e w' => e = .returned (.bool true) ∧ Below w.heap.size w w' := by
  go_enter Tryd.func6, Tryd.ntmps6
  go_wp2_with fail
  refine (put_any _ _ hT hv0 hv1).mono ?_
  rintro e w1 ⟨rfl, hb1, hc1⟩
  have hT1 := hT.new hc1
  have hs1 : w.heap.size < w1.heap.size := lt_of_blk hb1
  rw [hn1.out]
  clear hT
  go_wp2_with fail
  refine (put_any _ _ hT1 hu0 hu1).mono ?_
  rintro e w2 ⟨rfl, hb2, hc2⟩
  have hs2 : w1.heap.size < w2.heap.size := lt_of_blk hb2
  rw [hn2.out]
  go_wp2_with fail
  refine (num_any _ _).mono ?_
  rintro e w3 ⟨rfl, rfl⟩
  go_wp2_with fail
  refine (num_any _ _).mono ?_
  rintro e w3 ⟨rfl, rfl⟩
  have hr1 := row8_blk (blk_keep hb1 hc2 (fun f => f)) n1 (by rw [vb_length, hn1.out]) n1
  have hr2 := row8_blk hb2 n2 (by rw [vb_length, hn2.out]) n2
  have hq1 := conv8 (row8_take hr1 n2 (by omega))
  have hq2 := conv8 (row8_take hr2 n2 (by omega))
  have hq : ((strOfNums ((vb v).take n2)).toList == (strOfNums ((vb u).take n2)).toList) = (v == u) := same_iff hv0 hv1 hu0 hu1 n2 (by have := hn1.out; have := hn2.out; omega)
  have HR : Hid (Row8 w2 (some ⟨w.heap.size, 0, none⟩) n1 n1 (vb v)) := hr1
  have hC : Chg (fun _ => False) w w2 := hc1.trans hc2 (fun _ f => f.elim)
  generalize strOfNums ((vb v).take n2) = s1 at *
  generalize strOfNums ((vb u).take n2) = s2 at *
  clear hr1 hr2 hb1 hb2 hc1 hc2 hT1
  go_wp2_with fail
  go_quiet (fail)
  have hC2 : Chg (fun _ => False) w (w2.drewN nq) := hC.trans (chg_drewN (S := fun _ => False) w2 nq) (fun _ f => f.elim)
  have HR2 : Hid (Row8 (w2.drewN nq) (some ⟨w.heap.size, 0, none⟩) n1 n1 (vb v)) := row8_chg HR.out (chg_drewN w2 nq)
  clear hq1 hq2 HR hC
  by_cases c0 : cut < 0
  · go_wp2
    go_ret
    exact ⟨rfl, hC2.below (Nat.le_refl _) (fun _ f => f.elim)⟩
  · by_cases c1 : (n1 : Int) ≤ cut
    · go_wp2
      go_ret
      exact ⟨rfl, hC2.below (Nat.le_refl _) (fun _ f => f.elim)⟩
    · obtain ⟨c, rfl⟩ := Int.eq_ofNat_of_zero_le (show 0 ≤ cut by omega)
      have hg := get_any _ _ _ _ _ (row8_take HR2.out c (by omega)) ((vb_bytes v).take c) (show c ≤ n1 by omega) (by omega)
      have hcut : ∀ x n e, GetIs ((vb v).take c) x n e → x = 0 ∧ n = 0 ∧ e = 1 := fun x n e h => get_cut hv1 (by have := hn1.out; omega) h
      go_wp2_with fail
      refine hg.mono ?_
      rintro e w4 ⟨y, m, e, rfl, hgi, rfl⟩
      obtain ⟨rfl, rfl, rfl⟩ := hcut y m e hgi
      clear hgi hg hcut
      go_wp2_with fail
      refine (num_any _ _).mono ?_
      rintro e w4 ⟨rfl, rfl⟩
      go_wp2
      go_ret
      exact ⟨rfl, hC2.below (Nat.le_refl _) (fun _ f => f.elim)⟩


theorem walk (a b cut : Int) (w0 : (Lit.int .u64 a).wf = true) (w1 : (Lit.int .u64 b).wf = true) (w : World) (hT : Tab w) :
    Calls Tryd.prog 6 #[.int .u64 a, .int .u64 b, .int .i64 cut] w fun e w' => e = .returned (.bool true) ∧ Below w.heap.size w w' := by
  have m1 := mask_bd w0
  have m2 := mask_bd w1
  have s1 := sz_pow m1.2
  have s2 := sz_pow m2.2
  by_cases hle : sz (bits .and .u64 a 9223372036854775807) ≤ sz (bits .and .u64 b 9223372036854775807)
  · exact walk_le a b cut _ _ _ _ rfl rfl m1.1 m1.2 m2.1 m2.2 rfl rfl hle s1.2.2.1 s2.2.2.1 s2.2.2.2 s1.2.2.2 w hT
  · exact walk_gt a b cut _ _ _ _ rfl rfl m1.1 m1.2 m2.1 m2.2 rfl rfl (by omega) s1.2.2.1 s2.2.2.1 s2.2.2.2 s1.2.2.2 w hT

set_option maxRecDepth 100000 in
theorem lifted (os : Os) (started : os.Started) (H : Type) (enc : TypeId × Value → H) :
    ReturnsInHanded {} Tryd.checked os 6 .any (fun w args => (Rows.varintApartSpec.pre enc Tryd.prog Tryd.f6 [] false w args ∧ laidMetH Tryd.prog [("pith/varint.bounds", Rows.laid_pith_varint_bounds)] w) ∧ sizedMet enc Tryd.prog Tryd.f6 (OpenSpec.ofChange Rows.varintApartSpec) false w args)
      (Rows.varintApartSpec.post enc Tryd.prog Tryd.f6 false true false false) := by
  refine returnsInHanded_of_change_and (C := Tryd.checked) (X := fun w _ => laidMetH Tryd.prog [("pith/varint.bounds", Rows.laid_pith_varint_bounds)] w) (fun _ _ _ hh h => h.of_heap hh) own started (by kernel_rfl) Tryd.func6
    (ChangeSpec.witness_shaped (enc := enc) (C := Tryd.checked) (os := os) (X := fun w _ => laidMetH Tryd.prog [("pith/varint.bounds", Rows.laid_pith_varint_bounds)] w) false (World.doorLaid Tryd.prog 400 os) #[.int .u64 0, .int .u64 0, .int .i64 0] 8 rfl (World.shaped_of_RefB (by kernel_rfl) (by kernel_rfl)) (by kernel_rfl) (by kernel_rfl) (by kernel_rfl) (door_met os _)) ?_
  intro W base args ds gs before hval0 hW _ hsz0 hL _
  have hsz : (DataW.weightsEach Tryd.prog (Tryd.f6.params.toList ++ Rows.varintApartSpec.plain.varTypes Tryd.prog) (ds ++ gs)).all (· ≤ reachBytes) = true := hsz0
  clear hsz0
  have hT := tab_of_laid hL
  have hval : ∀ (j : Nat) t v, Tryd.f6.params[j]? = some t → args[j]? = some v → Value.okWide Tryd.prog W .any base t v := hval0
  have hW' := hW
  obtain ⟨p, q, hA0, hV, rfl, hfz, hnd⟩ := hW
  have hA : DataW.TrodAll enc Tryd.prog W 0 (fun _ => true) true Tryd.f6.params.toList args.toList ds p := hA0
  rw [Tryd.params6] at hA hval hsz
  obtain ⟨v0, vs0, d0, ds0, p0, q0, hargs, rfl, rfl, h0, r0⟩ := trodAll_cons hA
  obtain ⟨v1, vs1, d1, ds1, p1, q1, rfl, rfl, rfl, h1, r1⟩ := trodAll_cons r0
  obtain ⟨v2, vs2, d2, ds2, p2, q2, rfl, rfl, rfl, h2, r2⟩ := trodAll_cons r1
  obtain ⟨rfl, rfl, rfl⟩ := trodAll_nil r2
  obtain rfl : args = #[v0, v1, v2] := by cases args; simp_all
  obtain ⟨rfl, rfl⟩ := trodVars_none hV
  obtain ⟨a0, rfl, rfl, rfl, w0⟩ := open_int Tryd.underlying22 (hval 0 22 v0 rfl rfl) h0
  obtain ⟨a1, rfl, rfl, rfl, w1⟩ := open_int Tryd.underlying22 (hval 1 22 v1 rfl rfl) h1
  obtain ⟨a2, rfl, rfl, rfl, w2⟩ := open_int Tryd.underlying3 (hval 2 3 v2 rfl rfl) h2
  clear hA0 hval0
  simp only [List.append_nil] at hW'
  refine (walk a0 a1 a2 w0 w1 W hT).mono fun e W' ⟨he, bel⟩ => ?_
  subst he
  exact ⟨_, rfl, _, _, _, [], _, [], hW', trodAll_mk1 (shut_bool Tryd.underlying4 _), (trodAll_cons_mk (shut_int Tryd.underlying22 w0) (trodAll_cons_mk (shut_int Tryd.underlying22 w1) (trodAll_cons_mk (shut_int Tryd.underlying3 w2) trodAll_mk0))), rfl, bel.frame _, fun h => by cases h⟩

theorem over : Rows.VarintApartSaid :=
  OpenClaim.holds_of_wide 6 Tryd.f6 rfl rfl rfl rfl rfl rfl rfl ⟨rfl, rfl, rfl, rfl, rfl⟩ rfl rfl rfl rfl rfl (by kernel_rfl) Tryd.func6 (by kernel_rfl)
    (of_decide_eq_true (by kernel_rfl)) (by unfold Func.isWrapper; first | (rw [if_pos (by decide +kernel)]; kernel_rfl) | (rw [if_neg (by decide +kernel)]; exact ⟨rfl, rfl⟩))
    (fun os started H enc _ => lifted os started H enc)

theorem card : Rows.VarintApartCardSaid :=
  Claim7.holds_tied_plain_at .later [] [.data] true (true, "9eaca55c46c199496ff09bc0497ecf8d869f991bd74fb21b856a185c3ef4797a") false
    over (fun _ h => by cases h) (by kernel_rfl) (fun _ h => by cases h) varintApart_row_tie rfl ⟨rfl, rfl⟩ (by kernel_rfl) rfl
    (fun f fn hf hfn => by
      obtain rfl : f = 6 := Option.some.inj ((show Tryd.prog.funcNamed "pith/pithlaw02.VarintApart" = some 6 by kernel_rfl).symm.trans hf) |>.symm
      obtain rfl : fn = Tryd.f6 := (Option.some.inj (Tryd.func6.symm.trans hfn)).symm
      exact ⟨by kernel_rfl, fun j t ht => by
        rw [Tryd.params6] at ht
        have hm : t ∈ [22, 22, 3] := by simpa using Array.mem_of_getElem? ht
        have hall : ([22, 22, 3].all fun u => !Tryd.prog.wantsStandIn u) = true := by kernel_rfl
        exact (show Tryd.prog.wantsStandIn t = false by simpa using List.all_eq_true.1 hall t hm)⟩)
    (by kernel_rfl)
end Go.Proofs.YtkjjcdkobapedaaDoor.varintApart
namespace Go.Proofs.YtkjjcdkobapedaaDoor
theorem varintApart_holds : Rows.VarintApartCardSaid := varintApart.card
#print axioms varintApart_holds
end Go.Proofs.YtkjjcdkobapedaaDoor
