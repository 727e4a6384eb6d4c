/- VarintExact holds: for every number and every list of bytes handed to the statement's function the call returns true and the arguments read afterwards as they did; the table of bounds is as the program's text lays it. -/
import Derived.Test.YtkjjcdkobapedaaDoorKnown
import Derived.Test.YtkjjcdkobapedaaDoorCards
import Derived.Test.YtkjjcdkobapedaaDoorTie
import Derived.SevenTiedAt
namespace Go.Proofs.YtkjjcdkobapedaaDoor.varintExact
open Go.ChangeShapes Go.WideShapes Go.ChangeAt Go.RowKit
set_option linter.unusedVariables false

theorem len_unique {xs : List Int} {n e n' e' : Int} (A : LenIs xs n e) (B : LenIs xs n' e') : n' = n ∧ e' = e := by
  rcases A with ⟨rfl, rfl, a, b⟩ | ⟨rfl, rfl, a, b⟩ | ⟨h, x, a, b, c, d, r⟩
  · exact (B.cut a b).symm
  · rcases B with ⟨_, _, k, _⟩ | ⟨rfl, rfl, _⟩ | ⟨h', x', a', b', c', d', r'⟩
    · omega
    · exact ⟨rfl, rfl⟩
    · have := b h' x' (by omega) b'
      omega
  · rcases r with ⟨r1, r2, rfl, rfl⟩ | ⟨r1, rfl, rfl⟩
    · rcases B with ⟨_, _, k, l⟩ | ⟨rfl, rfl, _⟩ | ⟨h', x', a', b', c', d', r'⟩
      · have := l h x b
        omega
      · exact ⟨rfl, rfl⟩
      · have e1 : ¬ h < h' := fun hl => by have := d' h x hl b; omega
        have e2 : ¬ h' < h := fun hl => by have := d h' x' hl b'; omega
        obtain rfl : h' = h := by omega
        rw [b] at b'
        simp only [Option.some.injEq] at b'
        subst b'
        rcases r' with ⟨_, _, rfl, rfl⟩ | ⟨q, _⟩
        · exact ⟨rfl, rfl⟩
        · exact (q ⟨r1, r2⟩).elim
    · exact (B.ok a b c d r1).symm

theorem get_unique {xs : List Int} {v n e v' n' e' : Int} (A : GetIs xs v n e) (B : GetIs xs v' n' e') : v' = v ∧ n' = n ∧ e' = e := by
  obtain ⟨rfl, rfl⟩ := len_unique A.1 B.1
  refine ⟨?_, rfl, rfl⟩
  by_cases h : e' = 0
  · rw [A.2.1 h, B.2.1 h]
  · rw [A.2.2 h, B.2.2 h]

set_option maxHeartbeats 1000000 in
theorem walk_yes (v : Int) (a : Option Addr) (len cap : Nat) (xs : List Int) (w : World) (hT : Tab w) (h0 : 0 ≤ v) (h1 : v ≤ 9223372036854775807) (hx : Row8 w a len cap xs) (hx8 : Bytes8 xs) (hcap : len ≤ 140737488351232) :
    Calls Tryd.prog 8 #[.int .u64 v, .slice a len cap] w fun e w' => e = .returned (.bool true) ∧ Below w.heap.size w w' := by
  obtain ⟨n1, n2, -, -⟩ := sz_is (v := v) rfl
  go_enter Tryd.func8, Tryd.ntmps8
  go_wp2_with fail
  refine (put_any _ _ hT h0 h1).mono ?_
  rintro e w1 ⟨rfl, hb1, hc1⟩
  have hT1 := hT.new hc1
  have hx1 := row8_chg hx hc1
  go_wp2_with fail
  refine (refPut_any _ _ h0 h1).mono ?_
  rintro e w2 ⟨p, rfl, hown2, hc2⟩
  have hC2 : Chg (fun _ => False) w w2 := hc1.trans hc2 (fun _ f => f.elim)
  have hT2 := hT1.new hc2
  have hx2 := row8_chg hx1 hc2
  have hb2 := blk_keep hb1 hc2 (fun f => f)
  have hr2 := row8_blk hb2 (sz v) (vb_length v) (sz v)
  have hv1 := conv8_here hr2
  obtain ⟨pa, pc, rfl, hr3, -⟩ := own_row8c hown2
  have hv2 := conv8_here hr3
  generalize strOfNums (vb v) = s at *
  have hsz := size_any v w2 hT2 h0 h1
  have hrs := refSize_any v w2 h0 h1
  have HB : Hid (1 ≤ sz v ∧ sz v ≤ 9) := ⟨n1, n2⟩
  clear hT hx hT1 hx1 hb1 hc1 hb2 hr2 hr3 hown2 hc2
  generalize sz v = n at *
  go_wp2_with fail
  refine (num_any _ _).mono ?_
  rintro e w3 ⟨rfl, rfl⟩
  go_wp2_with fail
  refine hsz.mono ?_
  rintro e w3 ⟨rfl, rfl⟩
  go_wp2_with fail
  refine hrs.mono ?_
  rintro e w4 ⟨rfl, hc4⟩
  have hCd : Chg (fun _ => False) w w4 := hC2.trans hc4 (fun _ f => f.elim)
  have hTd := hT2.new hc4
  have hxd := row8_chg hx2 hc4
  clear hsz hrs hv1 hv2 hT2 hx2 hC2 hc4
  go_wp2_with fail
  refine (room_any _ _ _ _ _ hxd hcap).mono ?_
  rintro e w5 ⟨l, rfl, hown5, hc5⟩
  have hC5 : Chg (fun _ => False) w w5 := hCd.trans hc5 (fun _ f => f.elim)
  have hx5 := row8_chg hxd hc5
  have hT5 := hTd.new hc5
  have hm := hx5.1
  obtain ⟨g, cl, rfl, hcl, hr5⟩ : ∃ g cl, l = .slice (some ⟨g, 0, none⟩) (len + 2) cl ∧ len + 2 ≤ cl ∧ Row8 w5 (some ⟨g, 0, none⟩) (len + 2) cl (xs ++ [165, 90]) := by
    obtain ⟨ad, c, e, hr, hnc⟩ := own_row8c hown5
    rcases own_shape hown5 with ⟨_, e2⟩ | ⟨g, cap2, e2⟩
    · omega
    · rw [e2] at e
      simp only [Value.slice.injEq] at e
      obtain ⟨rfl, _, rfl⟩ := e
      exact ⟨g, cap2, e2, hnc, hr⟩
  have hg1 := get_any _ _ _ _ _ (row8_take hr5 len (by omega)) (by rw [List.take_left' hm]; exact hx8) (show len ≤ cl by omega) (by omega)
  rw [List.take_left' hm] at hg1
  have hg2 := refGet_any _ _ _ _ _ hx5 hx8 (by omega)
  have hk := kept_any g cl a len cap xs w5 hr5 hcl hx5 hcap
  clear hown5 hc5 hxd hTd hCd hr5 hx5
  go_wp2_with fail
  refine hg1.mono ?_
  rintro e w6 ⟨y1, m1, e1, rfl, hgi1, rfl⟩
  go_wp2_with fail
  refine hg2.mono ?_
  rintro e w6 ⟨y2, m2, e2, rfl, hgi2, rfl⟩
  obtain ⟨rfl, rfl, rfl⟩ := get_unique hgi1 hgi2
  clear hgi1 hgi2 hg1 hg2
  go_wp2_with fail
  refine (num_any _ _).mono ?_
  rintro e w6 ⟨rfl, rfl⟩
  go_wp2_with fail
  refine hk.mono ?_
  rintro e w6 ⟨rfl, q, rfl⟩
  clear hk
  have hT6 : Tab (w5.drewN q) := hT5.new (chg_drewN w5 q)
  go_wp2_with fail
  refine (known_any _ hT6).mono ?_
  rintro e w7 ⟨rfl, hc7⟩
  have hC7 : Chg (fun _ => False) w w7 := (hC5.trans (chg_drewN (S := fun _ => False) w5 q) (fun _ f => f.elim)).trans hc7 (fun _ f => f.elim)
  go_wp2
  go_ret
  exact ⟨rfl, hC7.below (Nat.le_refl _) (fun _ f => f.elim)⟩

set_option maxHeartbeats 1000000 in
theorem walk_no (v : Int) (a : Option Addr) (len cap : Nat) (xs : List Int) (w : World) (hT : Tab w) (h1 : 9223372036854775807 < v) (hx : Row8 w a len cap xs) (hx8 : Bytes8 xs) (hcap : len ≤ 140737488351232) :
    Calls Tryd.prog 8 #[.int .u64 v, .slice a len cap] w fun e w' => e = .returned (.bool true) ∧ Below w.heap.size w w' := by
  have hv := conv8_here (show Row8 w none 0 0 [] from ⟨rfl, .inl ⟨rfl, rfl, rfl⟩⟩)
  generalize strOfNums [] = s at *
  have hTd := hT
  have hxd := hx
  have hCd := Chg.refl (fun _ => False) w
  go_enter Tryd.func8, Tryd.ntmps8
  go_wp2_with fail
  refine (put_no _ _ h1).mono ?_
  rintro e w1 ⟨rfl, rfl⟩
  go_wp2_with fail
  refine (refPut_no _ _ h1).mono ?_
  rintro e w1 ⟨rfl, rfl⟩
  go_wp2_with fail
  refine (num_any _ _).mono ?_
  rintro e w3 ⟨rfl, rfl⟩
  go_wp2_with fail
  refine (size_no _ _ h1).mono ?_
  rintro e w3 ⟨rfl, rfl⟩
  go_wp2_with fail
  refine (refSize_no _ _ h1).mono ?_
  rintro e w3 ⟨rfl, rfl⟩
  clear hv hT hx
  go_wp2_with fail
  refine (room_any _ _ _ _ _ hxd hcap).mono ?_
  rintro e w5 ⟨l, rfl, hown5, hc5⟩
  have hC5 : Chg (fun _ => False) w w5 := hCd.trans hc5 (fun _ f => f.elim)
  have hx5 := row8_chg hxd hc5
  have hT5 := hTd.new hc5
  have hm := hx5.1
  obtain ⟨g, cl, rfl, hcl, hr5⟩ : ∃ g cl, l = .slice (some ⟨g, 0, none⟩) (len + 2) cl ∧ len + 2 ≤ cl ∧ Row8 w5 (some ⟨g, 0, none⟩) (len + 2) cl (xs ++ [165, 90]) := by
    obtain ⟨ad, c, e, hr, hnc⟩ := own_row8c hown5
    rcases own_shape hown5 with ⟨_, e2⟩ | ⟨g, cap2, e2⟩
    · omega
    · rw [e2] at e
      simp only [Value.slice.injEq] at e
      obtain ⟨rfl, _, rfl⟩ := e
      exact ⟨g, cap2, e2, hnc, hr⟩
  have hg1 := get_any _ _ _ _ _ (row8_take hr5 len (by omega)) (by rw [List.take_left' hm]; exact hx8) (show len ≤ cl by omega) (by omega)
  rw [List.take_left' hm] at hg1
  have hg2 := refGet_any _ _ _ _ _ hx5 hx8 (by omega)
  have hk := kept_any g cl a len cap xs w5 hr5 hcl hx5 hcap
  clear hown5 hc5 hxd hTd hCd hr5 hx5
  go_wp2_with fail
  refine hg1.mono ?_
  rintro e w6 ⟨y1, m1, e1, rfl, hgi1, rfl⟩
  go_wp2_with fail
  refine hg2.mono ?_
  rintro e w6 ⟨y2, m2, e2, rfl, hgi2, rfl⟩
  obtain ⟨rfl, rfl, rfl⟩ := get_unique hgi1 hgi2
  clear hgi1 hgi2 hg1 hg2
  go_wp2_with fail
  refine (num_any _ _).mono ?_
  rintro e w6 ⟨rfl, rfl⟩
  go_wp2_with fail
  refine hk.mono ?_
  rintro e w6 ⟨rfl, q, rfl⟩
  clear hk
  have hT6 : Tab (w5.drewN q) := hT5.new (chg_drewN w5 q)
  go_wp2_with fail
  refine (known_any _ hT6).mono ?_
  rintro e w7 ⟨rfl, hc7⟩
  have hC7 : Chg (fun _ => False) w w7 := (hC5.trans (chg_drewN (S := fun _ => False) w5 q) (fun _ f => f.elim)).trans hc7 (fun _ f => f.elim)
  go_wp2
  go_ret
  exact ⟨rfl, hC7.below (Nat.le_refl _) (fun _ f => f.elim)⟩

theorem walk (v : Int) (w0 : (Lit.int .u64 v).wf = true) (a : Option Addr) (len cap : Nat) (xs : List Int) (w : World) (hT : Tab w) (hx : Row8 w a len cap xs) (hx8 : Bytes8 xs) (hcap : len ≤ 140737488351232) :
    Calls Tryd.prog 8 #[.int .u64 v, .slice a len cap] w fun e w' => e = .returned (.bool true) ∧ Below w.heap.size w w' := by
  obtain ⟨b0, b1⟩ := bounds_u64 w0
  by_cases h1 : 9223372036854775807 < v
  · exact walk_no v a len cap xs w hT h1 hx hx8 hcap
  · exact walk_yes v a len cap xs w hT (by omega) (by omega) hx hx8 hcap

set_option maxRecDepth 100000 in
theorem lifted (os : Os) (started : os.Started) (H : Type) (enc : TypeId × Value → H) :
    ReturnsInHanded {} Tryd.checked os 8 .any (fun w args => (Rows.varintExactSpec.pre enc Tryd.prog Tryd.f8 [] false w args ∧ laidMetH Tryd.prog [("pith/varint.bounds", Rows.laid_pith_varint_bounds)] w) ∧ sizedMet enc Tryd.prog Tryd.f8 (OpenSpec.ofChange Rows.varintExactSpec) false w args)
      (Rows.varintExactSpec.post enc Tryd.prog Tryd.f8 false true false false) := by
  refine returnsInHanded_of_change_and (C := Tryd.checked) (X := fun w _ => laidMetH Tryd.prog [("pith/varint.bounds", Rows.laid_pith_varint_bounds)] w) (fun _ _ _ hh h => h.of_heap hh) own started (by kernel_rfl) Tryd.func8
    (ChangeSpec.witness_shaped (enc := enc) (C := Tryd.checked) (os := os) (X := fun w _ => laidMetH Tryd.prog [("pith/varint.bounds", Rows.laid_pith_varint_bounds)] w) false (World.doorLaid Tryd.prog 400 os) #[.int .u64 0, .slice none 0 0] 8 rfl (World.shaped_of_RefB (by kernel_rfl) (by kernel_rfl)) (by kernel_rfl) (by kernel_rfl) (by kernel_rfl) (door_met os _)) ?_
  intro W base args ds gs before hval0 hW _ hsz0 hL _
  have hsz : (DataW.weightsEach Tryd.prog (Tryd.f8.params.toList ++ Rows.varintExactSpec.plain.varTypes Tryd.prog) (ds ++ gs)).all (· ≤ reachBytes) = true := hsz0
  clear hsz0
  have hT := tab_of_laid hL
  have hval : ∀ (j : Nat) t v, Tryd.f8.params[j]? = some t → args[j]? = some v → Value.okWide Tryd.prog W .any base t v := hval0
  have hW' := hW
  obtain ⟨p, q, hA0, hV, rfl, hfz, hnd⟩ := hW
  have hA : DataW.TrodAll enc Tryd.prog W 0 (fun _ => true) true Tryd.f8.params.toList args.toList ds p := hA0
  rw [Tryd.params8] at hA hval hsz
  obtain ⟨v0, vs0, d0, ds0, p0, q0, hargs, rfl, rfl, h0, r0⟩ := trodAll_cons hA
  obtain ⟨v1, vs1, d1, ds1, p1, q1, rfl, rfl, rfl, h1, r1⟩ := trodAll_cons r0
  obtain ⟨rfl, rfl, rfl⟩ := trodAll_nil r1
  obtain rfl : args = #[v0, v1] := by cases args; simp_all
  obtain ⟨rfl, rfl⟩ := trodVars_none hV
  obtain ⟨a0, rfl, rfl, rfl, w0⟩ := open_int Tryd.underlying22 (hval 0 22 v0 rfl rfl) h0
  obtain ⟨a1, len1, cap1, rfl⟩ := okWide_slice Tryd.underlying24 (hval 1 24 v1 rfl rfl)
  have k1 := h1
  have lt1 : ∀ x ∈ p1, x.block < W.heap.size := by obtain ⟨m, hm⟩ := k1; exact DataW.trod_lt m _ _ _ hm
  obtain ⟨xs1, hx1, hy1, hl1, hcap1⟩ := open8 h1 (fun elems spare e => by subst e; exact sized_slice hsz (j := 1) (t := 24) (e := 5) rfl rfl Tryd.underlying24)
  clear hA0 hval0
  refine (walk a0 w0 a1 len1 cap1 xs1 W hT hx1 hy1 (by omega)).mono fun e W' ⟨he, bel⟩ => ?_
  subst he
  exact ⟨_, rfl, _, _, _, [], _, [], hW', trodAll_mk1 (shut_bool Tryd.underlying4 _), (trodAll_cons_mk (shut_int Tryd.underlying22 w0) (trodAll_cons_mk (Below.trod laidOut (by kernel_rfl) (of_decide_eq_true (by kernel_rfl)) k1 bel lt1) trodAll_mk0)), rfl, bel.frame _, fun h => by cases h⟩

theorem over : Rows.VarintExactSaid :=
  OpenClaim.holds_of_wide 8 Tryd.f8 rfl rfl rfl rfl rfl rfl rfl ⟨rfl, rfl, rfl, rfl, rfl⟩ rfl rfl rfl rfl rfl (by kernel_rfl) Tryd.func8 (by kernel_rfl)
    (of_decide_eq_true (by kernel_rfl)) (by unfold Func.isWrapper; first | (rw [if_pos (by decide +kernel)]; kernel_rfl) | (rw [if_neg (by decide +kernel)]; exact ⟨rfl, rfl⟩))
    (fun os started H enc _ => lifted os started H enc)

theorem card : Rows.VarintExactCardSaid :=
  Claim7.holds_tied_plain_at .later [] [.data] true (true, "9eaca55c46c199496ff09bc0497ecf8d869f991bd74fb21b856a185c3ef4797a") false
    over (fun _ h => by cases h) (by kernel_rfl) (fun _ h => by cases h) varintExact_row_tie rfl ⟨rfl, rfl⟩ (by kernel_rfl) rfl
    (fun f fn hf hfn => by
      obtain rfl : f = 8 := Option.some.inj ((show Tryd.prog.funcNamed "pith/pithlaw02.VarintExact" = some 8 by kernel_rfl).symm.trans hf) |>.symm
      obtain rfl : fn = Tryd.f8 := (Option.some.inj (Tryd.func8.symm.trans hfn)).symm
      exact ⟨by kernel_rfl, fun j t ht => by
        rw [Tryd.params8] at ht
        have hm : t ∈ [22, 24] := by simpa using Array.mem_of_getElem? ht
        have hall : ([22, 24].all fun u => !Tryd.prog.wantsStandIn u) = true := by kernel_rfl
        exact (show Tryd.prog.wantsStandIn t = false by simpa using List.all_eq_true.1 hall t hm)⟩)
    (by kernel_rfl)
end Go.Proofs.YtkjjcdkobapedaaDoor.varintExact
namespace Go.Proofs.YtkjjcdkobapedaaDoor
theorem varintExact_holds : Rows.VarintExactCardSaid := varintExact.card
#print axioms varintExact_holds
end Go.Proofs.YtkjjcdkobapedaaDoor
