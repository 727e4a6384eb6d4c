/- VarintBack holds: for every number and every list of bytes handed to the statement's function the call returns true and the arguments read afterwards as they did; the table of bounds is as the program's text lays it. -/
import Derived.Test.YtkjjcdkobapedaaDoorStr
import Derived.Test.YtkjjcdkobapedaaDoorCards
import Derived.Test.YtkjjcdkobapedaaDoorTie
import Derived.SevenTiedAt
namespace Go.Proofs.YtkjjcdkobapedaaDoor.varintBack
open Go.ChangeShapes Go.WideShapes Go.ChangeAt Go.RowKit
set_option linter.unusedVariables false

theorem walk_no (v : Int) (t : Value) (w : World) (h1 : 9223372036854775807 < v) (ht : ∃ a l c, t = .slice a l c) :
    Calls Tryd.prog 4 #[.int .u64 v, t] w fun e w' => e = .returned (.bool true) ∧ Below w.heap.size w w' := by
  obtain ⟨a, l, c, rfl⟩ := ht
  go_enter Tryd.func4, Tryd.ntmps4
  go_wp2_with fail
  refine (put_no _ _ h1).mono ?_
  rintro e w1 ⟨rfl, rfl⟩
  go_wp2_with fail
  refine (size_no _ _ h1).mono ?_
  rintro e w1 ⟨rfl, rfl⟩
  go_wp2_with fail
  refine (num_any _ _).mono ?_
  rintro e w1 ⟨rfl, rfl⟩
  go_wp2
  go_ret
  exact ⟨rfl, Below.refl _ _⟩

set_option maxHeartbeats 1000000 in
theorem walk_yes (v : Int) (a : Option Addr) (len cap : Nat) (xs : List Int) (w : World) (hT : Tab w) (h0 : 0 ≤ v) (h1 : v ≤ 9223372036854775807) (hx : Row8 w a len cap xs) (hx8 : Bytes8 xs) (hcap : len ≤ 140737488351232) :
    Calls Tryd.prog 4 #[.int .u64 v, .slice a len cap] w fun e w' => e = .returned (.bool true) ∧ Below w.heap.size w w' := by
  obtain ⟨i0, hi, hz0, hz1, hz2⟩ := info_parts info5
  obtain ⟨n1, n2, -, -⟩ := sz_is (v := v) rfl
  go_enter Tryd.func4, Tryd.ntmps4
  go_wp2_with fail
  refine (put_any _ _ hT h0 h1).mono ?_
  rintro e w1 ⟨rfl, hb1, hc1⟩
  have hT1 := hT.new hc1
  have hx1 := row8_chg hx hc1
  clear hT hx
  go_wp2_with fail
  refine (size_any _ _ hT1 h0 h1).mono ?_
  rintro e w2 ⟨rfl, rfl⟩
  go_wp2_with fail
  refine (num_any _ _).mono ?_
  rintro e w2 ⟨rfl, rfl⟩
  have HG : ∀ x n e, GetIs (vb v ++ xs) x n e → x = v ∧ n = sz v ∧ e = 0 := fun x n e h => get_vb h0 h1 h
  have hs1 : w.heap.size < w1.heap.size := lt_of_blk hb1
  have hr1 := row8_blk hb1 (sz v) (vb_length v) (sz v)
  have hl := vb_length v
  have h8 := (vb_bytes v).append hx8
  have hm := hx1.1
  generalize vb v = p at *
  generalize sz v = n at *
  go_wp2_with (at_builtin; refine wpList_append_moved rfl _ _ 24 rfl w1.heap.size 5 i0 (.int .u8 0) 1 1 Tryd.underlying24 hi hz0 hz1 hz2 rfl (by decide) _ 0 [] rfl (some ⟨w.heap.size, 0, none⟩) n n rfl (cells8 p) (World.ownsRow_nil _ _ _ _) hr1.src (oneCells p) (by unfold maxLen; omega) (by omega) (Nat.le_refl _) ?_)
  intro v2 w2 hown2 hg2 hm2
  have hc2 : Chg (fun _ => False) w1 w2 := (Chg.refl _ w1).grown hg2 (fun k e => by cases e)
  have hx2 := row8_chg hx1 hc2
  clear hg2 hm2 hx1 hr1 hb1
  go_wp2_with (at_builtin; refine wpList_append_moved rfl _ _ 24 rfl w1.heap.size 5 i0 (.int .u8 0) 1 1 Tryd.underlying24 hi hz0 hz1 hz2 rfl (by decide) _ n (cells8 p) rfl a len cap rfl (cells8 xs) hown2 hx2.src (oneCells xs) (by unfold maxLen; omega) (by omega) (by have := hc2.size; omega) ?_)
  intro v3 w3 hown3 hg3 hm3
  have hc3 : Chg (fun k => w1.heap.size ≤ k) w1 w3 := (hc2.mono (fun _ f => f.elim)).grown hg3 (fun k e => .inl ((hown2.lt k e).1))
  have hC : Chg (fun k => w.heap.size ≤ k) w w3 := (hc1.mono (fun _ f => f.elim)).trans hc3 (fun k f => .inl (by omega))
  rw [cells8_append] at hown3
  obtain ⟨ad, c, rfl, hr3, hnc⟩ := own_row8c hown3
  clear hown3 hg3 hm3 hown2 hx2 hc3 hc2 hc1
  go_wp2_with fail
  refine (get_any _ _ _ _ _ hr3 h8 hnc (by omega)).mono ?_
  rintro e w4 ⟨y, m, e, rfl, hgi, rfl⟩
  obtain ⟨rfl, rfl, rfl⟩ := HG y m e hgi
  clear hgi hr3 HG
  go_wp2_with fail
  refine (num_any _ _).mono ?_
  rintro e w4 ⟨rfl, rfl⟩
  go_wp2
  go_ret
  exact ⟨rfl, hC.below (Nat.le_refl _) (fun k f => f)⟩

theorem walk (v : Int) (w0 : (Lit.int .u64 v).wf = true) (a : Option Addr) (len cap : Nat) (xs : List Int) (w : World) (hT : Tab w) (hx : Row8 w a len cap xs) (hx8 : Bytes8 xs) (hcap : len ≤ 140737488351232) :
    Calls Tryd.prog 4 #[.int .u64 v, .slice a len cap] w fun e w' => e = .returned (.bool true) ∧ Below w.heap.size w w' := by
  obtain ⟨b0, b1⟩ := bounds_u64 w0
  by_cases h1 : 9223372036854775807 < v
  · exact walk_no v _ w h1 ⟨_, _, _, rfl⟩
  · exact walk_yes v a len cap xs w hT (by omega) (by omega) hx hx8 hcap

set_option maxRecDepth 100000 in
theorem lifted (os : Os) (started : os.Started) (H : Type) (enc : TypeId × Value → H) :
    ReturnsInHanded {} Tryd.checked os 4 .any (fun w args => (Rows.varintBackSpec.pre enc Tryd.prog Tryd.f4 [] false w args ∧ laidMetH Tryd.prog [("pith/varint.bounds", Rows.laid_pith_varint_bounds)] w) ∧ sizedMet enc Tryd.prog Tryd.f4 (OpenSpec.ofChange Rows.varintBackSpec) false w args)
      (Rows.varintBackSpec.post enc Tryd.prog Tryd.f4 false true false false) := by
  refine returnsInHanded_of_change_and (C := Tryd.checked) (X := fun w _ => laidMetH Tryd.prog [("pith/varint.bounds", Rows.laid_pith_varint_bounds)] w) (fun _ _ _ hh h => h.of_heap hh) own started (by kernel_rfl) Tryd.func4
    (ChangeSpec.witness_shaped (enc := enc) (C := Tryd.checked) (os := os) (X := fun w _ => laidMetH Tryd.prog [("pith/varint.bounds", Rows.laid_pith_varint_bounds)] w) false (World.doorLaid Tryd.prog 400 os) #[.int .u64 0, .slice none 0 0] 8 rfl (World.shaped_of_RefB (by kernel_rfl) (by kernel_rfl)) (by kernel_rfl) (by kernel_rfl) (by kernel_rfl) (door_met os _)) ?_
  intro W base args ds gs before hval0 hW _ hsz0 hL _
  have hsz : (DataW.weightsEach Tryd.prog (Tryd.f4.params.toList ++ Rows.varintBackSpec.plain.varTypes Tryd.prog) (ds ++ gs)).all (· ≤ reachBytes) = true := hsz0
  clear hsz0
  have hT := tab_of_laid hL
  have hval : ∀ (j : Nat) t v, Tryd.f4.params[j]? = some t → args[j]? = some v → Value.okWide Tryd.prog W .any base t v := hval0
  have hW' := hW
  obtain ⟨p, q, hA0, hV, rfl, hfz, hnd⟩ := hW
  have hA : DataW.TrodAll enc Tryd.prog W 0 (fun _ => true) true Tryd.f4.params.toList args.toList ds p := hA0
  rw [Tryd.params4] at hA hval hsz
  obtain ⟨v0, vs0, d0, ds0, p0, q0, hargs, rfl, rfl, h0, r0⟩ := trodAll_cons hA
  obtain ⟨v1, vs1, d1, ds1, p1, q1, rfl, rfl, rfl, h1, r1⟩ := trodAll_cons r0
  obtain ⟨rfl, rfl, rfl⟩ := trodAll_nil r1
  obtain rfl : args = #[v0, v1] := by cases args; simp_all
  obtain ⟨rfl, rfl⟩ := trodVars_none hV
  obtain ⟨a0, rfl, rfl, rfl, w0⟩ := open_int Tryd.underlying22 (hval 0 22 v0 rfl rfl) h0
  obtain ⟨a1, len1, cap1, rfl⟩ := okWide_slice Tryd.underlying24 (hval 1 24 v1 rfl rfl)
  have k1 := h1
  have lt1 : ∀ x ∈ p1, x.block < W.heap.size := by obtain ⟨m, hm⟩ := k1; exact DataW.trod_lt m _ _ _ hm
  obtain ⟨xs1, hx1, hy1, hl1, hcap1⟩ := open8 h1 (fun elems spare e => by subst e; exact sized_slice hsz (j := 1) (t := 24) (e := 5) rfl rfl Tryd.underlying24)
  clear hA0 hval0
  refine (walk a0 w0 a1 len1 cap1 xs1 W hT hx1 hy1 (by omega)).mono fun e W' ⟨he, bel⟩ => ?_
  subst he
  exact ⟨_, rfl, _, _, _, [], _, [], hW', trodAll_mk1 (shut_bool Tryd.underlying4 _), (trodAll_cons_mk (shut_int Tryd.underlying22 w0) (trodAll_cons_mk (Below.trod laidOut (by kernel_rfl) (of_decide_eq_true (by kernel_rfl)) k1 bel lt1) trodAll_mk0)), rfl, bel.frame _, fun h => by cases h⟩

theorem over : Rows.VarintBackSaid :=
  OpenClaim.holds_of_wide 4 Tryd.f4 rfl rfl rfl rfl rfl rfl rfl ⟨rfl, rfl, rfl, rfl, rfl⟩ rfl rfl rfl rfl rfl (by kernel_rfl) Tryd.func4 (by kernel_rfl)
    (of_decide_eq_true (by kernel_rfl)) (by unfold Func.isWrapper; first | (rw [if_pos (by decide +kernel)]; kernel_rfl) | (rw [if_neg (by decide +kernel)]; exact ⟨rfl, rfl⟩))
    (fun os started H enc _ => lifted os started H enc)

theorem card : Rows.VarintBackCardSaid :=
  Claim7.holds_tied_plain_at .later [] [.data] true (true, "9eaca55c46c199496ff09bc0497ecf8d869f991bd74fb21b856a185c3ef4797a") false
    over (fun _ h => by cases h) (by kernel_rfl) (fun _ h => by cases h) varintBack_row_tie rfl ⟨rfl, rfl⟩ (by kernel_rfl) rfl
    (fun f fn hf hfn => by
      obtain rfl : f = 4 := Option.some.inj ((show Tryd.prog.funcNamed "pith/pithlaw02.VarintBack" = some 4 by kernel_rfl).symm.trans hf) |>.symm
      obtain rfl : fn = Tryd.f4 := (Option.some.inj (Tryd.func4.symm.trans hfn)).symm
      exact ⟨by kernel_rfl, fun j t ht => by
        rw [Tryd.params4] at ht
        have hm : t ∈ [22, 24] := by simpa using Array.mem_of_getElem? ht
        have hall : ([22, 24].all fun u => !Tryd.prog.wantsStandIn u) = true := by kernel_rfl
        exact (show Tryd.prog.wantsStandIn t = false by simpa using List.all_eq_true.1 hall t hm)⟩)
    (by kernel_rfl)
end Go.Proofs.YtkjjcdkobapedaaDoor.varintBack
namespace Go.Proofs.YtkjjcdkobapedaaDoor
theorem varintBack_holds : Rows.VarintBackCardSaid := varintBack.card
#print axioms varintBack_holds
end Go.Proofs.YtkjjcdkobapedaaDoor
