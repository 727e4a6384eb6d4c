/- ShaExtends holds: for every two lists of bytes handed to the statement's function the call returns true and the arguments read afterwards as they did; the two tables are as the program's text lays them. -/
import Derived.Test.YtnedllhlmddmoaaDoorKnown
import Derived.Test.YtnedllhlmddmoaaDoorCards
import Derived.Test.YtnedllhlmddmoaaDoorTie
import Derived.SevenTiedAt
namespace Go.Proofs.YtnedllhlmddmoaaDoor.shaExtends
open Go.ChangeShapes Go.WideShapes Go.ChangeAt Go.RowKit
set_option linter.unusedVariables false

set_option maxHeartbeats 8000000 in
set_option maxRecDepth 100000 in
theorem walk (a b : Option Addr) (la ca lb cb : Nat) (xa xb : List Nat) (w : World) (hT : Tab w) (r_a : Row8 w a la ca (up xa)) (r_b : Row8 w b lb cb (up xb)) (hba : Byt xa) (hbb : Byt xb)
    (hca : la ≤ ca) (hcb : lb ≤ cb) (hna : la ≤ 140737488351232) (hnb : lb ≤ 140737488351232) :
    Calls Tryd.prog 7 #[.slice a la ca, .slice b lb cb] w fun e w' => e = .returned (.bool true) ∧ Chg (fun _ => False) w w' := by
  obtain ⟨i0, hi, hz0, hz1, hz2⟩ := info_parts info5
  have hxa : xa.length = la := by rw [← up_length]; exact r_a.1
  have hxb : xb.length = lb := by rw [← up_length]; exact r_b.1
  have E1 : [xa].flatten = xa := by simp
  have T0 := hT
  have C0 : Chg (fun _ => False) w w := Chg.refl _ _
  go_enter Tryd.func7, Tryd.ntmps7
  go_wp2_with fail
  refine (lawknown_any w T0).mono ?_
  rintro e w1 ⟨rfl, cc⟩
  have C1 : Chg (fun _ => False) w w1 := chg_then C0 cc
  have T1 := T0.new C1
  clear cc C0  
  go_wp2_with fail
  refine (pad_any la w1 (by omega)).mono ?_
  rintro e w2 ⟨p, rfl, hp, hp2, cc⟩
  have hpl := Sha.padlen_le la
  have hpg := Sha.padlen_ge la
  have hpm := Sha.padlen_mod la
  have hbp := Nat.le_trans C1.size hp
  have hplt := lt_of_blk hp2
  have x_p2 : Row8 w2 (some ⟨p, 0, none⟩) (Sha.padlen la) (Sha.padlen la) (up (Sha.pad la)) := row8_blk hp2 _ _ (Sha.pad_len _)
  have C2 : Chg (fun _ => False) w w2 := chg_then C1 cc
  have T2 := T0.new C2
  clear cc T1 C1  
  clear hp2
  have hm0 : ((la : Int) + (Sha.padlen la : Nat)) % 64 = 0 := by omega
  have hq : (la : Int) + (Sha.padlen la : Nat) = ((la + Sha.padlen la : Nat) : Int) := by omega
  have hlp : (Sha.pad la).length = Sha.padlen la := Sha.pad_len _
  have hpb : Byt (Sha.pad la) := Sha.pad_byt _
  generalize Sha.padlen la = lp at *
  generalize hpd : Sha.pad la = xp at *
  generalize hN : la + lp = N at *
  go_wp2_with fail
  have pp := pieces_one 29 ⟨_, _, _, rfl, (row8_chg r_a C2), hba, hca⟩
  have cc := chg_one w2 (.cells #[.slice a la ca] 29)
  generalize hwx : w2.alloc (.cells #[.slice a la ca] 29) = w3 at *
  have C3 : Chg (fun _ => False) w w3 := chg_then C2 cc
  have T3 := T0.new C3
  have x_p3 := row8_chg x_p2 cc
  clear cc T2 C2  x_p2
  clear hwx
  refine (sum_some _ 1 1 [xa] w3 T3 pp rfl (by decide) (by simp <;> omega)).mono ?_
  rintro e w4 ⟨rfl, cc⟩
  clear pp
  rw [E1]
  have C4 : Chg (fun _ => False) w w4 := chg_then C3 cc
  have T4 := T0.new C4
  have x_p4 := row8_chg x_p3 cc
  clear cc T3 C3  x_p3
  have l_D : (Sha.sum Sha.I 0 xa).length = 32 := Sha.told_len _
  have b_D : ∀ x ∈ Sha.sum Sha.I 0 xa, x < 256 := Sha.told_byt _
  generalize hD : Sha.sum Sha.I 0 xa = D at *
  have HD : Hid (Sha.sum Sha.I 0 xa = D) := hD
  clear hD
  have hst0 := Sha.known_st b_D
  have hn0 : N % 64 = 0 := by omega
  have hn2 : N ≤ 1152921504606846976 := by omega
  go_wp2_with fail
  refine (resume_yes D N w4 T4 l_D b_D hn0 hn2).mono ?_
  rintro e w5 ⟨a_h, rfl, ha, hE, cc⟩
  have b_h : w.heap.size ≤ a_h := Nat.le_trans C4.size ha
  have g_h : 2 ≤ a_h := Nat.le_trans T0.two b_h
  have hpa : p ≠ a_h := by have := C4.size; obtain h := x_p4.below (by omega) _ rfl; have h2 : p < w4.heap.size := h; omega
  have C5 : Chg (fun _ => False) w w5 := chg_then C4 cc
  have T5 := T0.new C5
  have x_p5 := row8_chg x_p4 cc
  clear cc T4 C4  x_p4
  have e_h5 := hE
  clear hE ha
  have h0 := own_empty w5
  have c0 := chg_one w5 (.cells #[] 5)
  go_wp2_with (at_builtin; refine wpList_append_moved rfl _ _ 29 rfl w5.heap.size 5 i0 (.int .u8 0) 1 1 Tryd.underlying29 hi hz0 hz1 hz2 rfl (by decide) _ 0 (cells8 []) rfl b lb cb rfl (cells8 (up xb)) h0 (row8_chg r_b (chg_then C5 c0)).src (oneCells (up xb)) (by unfold maxLen; omega) (by omega) c0.size ?_)
  intro v1 w6 ho1 hg1 _
  have cc : Chg (fun _ => False) w5 w6 := c0.grown hg1 (fun k e => .inr ((h0.lt k e).1))
  rw [cells8_append, List.nil_append] at ho1
  obtain ⟨ba, bc, rfl, hrow, hle, hblk⟩ := own_row8d ho1
  clear hg1 h0 c0 ho1
  have z_h : a_h < w5.heap.size := by obtain ⟨_, hq, _, _⟩ := e_h5; exact lt_of_blk hq.blk
  have C6 : Chg (fun _ => False) w w6 := chg_then C5 cc
  have T6 := T0.new C6
  have e_h6 := e_h5.new cc
  have x_p6 := row8_chg x_p5 cc
  clear cc T5 C5 e_h5 x_p5
  go_wp2_with fail
  refine (write_any a_h (Sha.known D) N ([] : List Nat) xb ba lb bc w6 T6 g_h hst0 hn0 e_h6 hrow hbb (fun _ y e => by have := hblk y e; omega) (by simp <;> omega) hle).mono ?_
  rintro e w7 ⟨rfl, hE, cc⟩
  have C7 : Chg (fun _ => False) w w7 := C6.trans cc (fun i e => .inr (by omega))
  have T7 := T0.new C7
  have e_h7 := hE
  have x_p7 := row8_keep x_p6 cc (by intro y e; cases e; show ¬ p = _; omega)
  clear cc T6 C6 hE e_h6 x_p6
  clear hrow hle hblk z_h
  go_wp2_with fail
  refine (len_any a_h (Sha.known D) N (([] : List Nat) ++ xb) w7 e_h7).mono ?_
  rintro e wx ⟨rfl, rfl⟩
  have hv : N + (([] : List Nat) ++ xb).length = N + lb := by simp <;> omega
  rw [hv]
  clear hv
  go_wp2_with fail
  refine (hsum_any a_h (Sha.known D) N (([] : List Nat) ++ xb) w7 T7 hst0 hn0 e_h7 (by simp <;> omega)).mono ?_
  rintro e w8 ⟨rfl, cc⟩
  have l_D1 : (Sha.sum (Sha.known D) N (([] : List Nat) ++ xb)).length = 32 := Sha.told_len _
  generalize hq : Sha.sum (Sha.known D) N (([] : List Nat) ++ xb) = D1 at *
  have HD1 : Hid (Sha.sum (Sha.known D) N (([] : List Nat) ++ xb) = D1) := hq
  have EX : Sha.sum Sha.I 0 (xa ++ xp ++ xb) = Sha.sum (Sha.known D) N (([] : List Nat) ++ xb) := by
    have := Sha.sum_extends xa xb
    rw [hxa, hpd, HD.out, List.length_append, hxa, hlp, hN] at this
    rw [← this, List.nil_append]
  clear hq
  have C8 : Chg (fun _ => False) w w8 := chg_then C7 cc
  have T8 := T0.new C8
  have e_h8 := e_h7.new cc
  have x_p8 := row8_chg x_p7 cc
  clear cc T7 C7 e_h7 x_p7
  go_wp2_with fail
  have pp := pieces_three 29 ⟨_, _, _, rfl, (row8_chg r_a C8), hba, hca⟩ ⟨_, _, _, rfl, x_p8, hpb, (Nat.le_refl _)⟩ ⟨_, _, _, rfl, (row8_chg r_b C8), hbb, hcb⟩
  have cc := chg_one w8 (.cells #[.slice a la ca, .slice (some ⟨p, 0, none⟩) lp lp, .slice b lb cb] 29)
  generalize hwx : w8.alloc (.cells #[.slice a la ca, .slice (some ⟨p, 0, none⟩) lp lp, .slice b lb cb] 29) = w9 at *
  have C9 : Chg (fun _ => False) w w9 := chg_then C8 cc
  have T9 := T0.new C9
  have e_h9 := e_h8.new cc
  have x_p9 := row8_chg x_p8 cc
  clear cc T8 C8 e_h8 x_p8
  clear hwx
  refine (sum_some _ 3 3 [xa, xp, xb] w9 T9 pp rfl (by decide) (by simp <;> omega)).mono ?_
  rintro e w10 ⟨rfl, cc⟩
  clear pp
  rw [show [xa, xp, xb].flatten = xa ++ xp ++ xb by simp, EX, HD1.out]
  have C10 : Chg (fun _ => False) w w10 := chg_then C9 cc
  have T10 := T0.new C10
  have e_h10 := e_h9.new cc
  have x_p10 := row8_chg x_p9 cc
  clear cc T9 C9 e_h9 x_p9
  have q10 := same32 w10 D1 l_D1
  go_wp2
  go_ret
  exact ⟨rfl, C10⟩
set_option maxRecDepth 100000 in
theorem lifted (os : Os) (started : os.Started) (H : Type) (enc : TypeId × Value → H) :
    ReturnsInHanded {} Tryd.checked os 7 .any (fun w args => (Rows.shaExtendsSpec.pre enc Tryd.prog Tryd.f7 [] false w args ∧ laidMetH Tryd.prog [("pith/sha.first", Rows.laid_pith_sha_first), ("pith/sha.constants", Rows.laid_pith_sha_constants)] w) ∧ sizedMet enc Tryd.prog Tryd.f7 (OpenSpec.ofChange Rows.shaExtendsSpec) false w args)
      (Rows.shaExtendsSpec.post enc Tryd.prog Tryd.f7 false true false false) := by
  refine returnsInHanded_of_change_and (C := Tryd.checked) (X := fun w _ => laidMetH Tryd.prog [("pith/sha.first", Rows.laid_pith_sha_first), ("pith/sha.constants", Rows.laid_pith_sha_constants)] w) (fun _ _ _ hh h => h.of_heap hh) own started (by kernel_rfl) Tryd.func7
    (ChangeSpec.witness_shaped (enc := enc) (C := Tryd.checked) (os := os) (X := fun w _ => laidMetH Tryd.prog [("pith/sha.first", Rows.laid_pith_sha_first), ("pith/sha.constants", Rows.laid_pith_sha_constants)] w) false (World.doorLaid Tryd.prog 400 os) #[.slice none 0 0, .slice none 0 0] 8 rfl (World.shaped_of_RefB (by kernel_rfl) (by kernel_rfl)) (by kernel_rfl) (by kernel_rfl) (by kernel_rfl) (door_met os _)) ?_
  intro W base args ds gs before hval0 hW _ hsz0 hL _
  have hsz : (DataW.weightsEach Tryd.prog (Tryd.f7.params.toList ++ Rows.shaExtendsSpec.plain.varTypes Tryd.prog) (ds ++ gs)).all (· ≤ reachBytes) = true := hsz0
  clear hsz0
  have hT := tab_of_laid hL
  have hval : ∀ (j : Nat) t v, Tryd.f7.params[j]? = some t → args[j]? = some v → Value.okWide Tryd.prog W .any base t v := hval0
  have hW' := hW
  obtain ⟨p, q, hA0, hV, rfl, hfz, hnd⟩ := hW
  have hA : DataW.TrodAll enc Tryd.prog W 0 (fun _ => true) true Tryd.f7.params.toList args.toList ds p := hA0
  rw [Tryd.params7] at hA hval hsz
  obtain ⟨v0, vs0, d0, ds0, p0, q0, hargs, rfl, rfl, h0, r0⟩ := trodAll_cons hA
  obtain ⟨v1, vs1, d1, ds1, p1, q1, rfl, rfl, rfl, h1, r1⟩ := trodAll_cons r0
  obtain ⟨rfl, rfl, rfl⟩ := trodAll_nil r1
  obtain rfl : args = #[v0, v1] := by cases args; simp_all
  obtain ⟨rfl, rfl⟩ := trodVars_none hV
  obtain ⟨a0, len0, cap0, rfl⟩ := okWide_slice Tryd.underlying29 (hval 0 29 v0 rfl rfl)
  have k0 := h0
  have lt0 : ∀ x ∈ p0, x.block < W.heap.size := by obtain ⟨m, hm⟩ := k0; exact DataW.trod_lt m _ _ _ hm
  obtain ⟨xs0, hx0, hy0, hl0, hcap0⟩ := open8 h0 (fun elems spare e => by subst e; exact sized_slice hsz (j := 0) (t := 29) (e := 5) rfl rfl Tryd.underlying29)
  obtain ⟨a1, len1, cap1, rfl⟩ := okWide_slice Tryd.underlying29 (hval 1 29 v1 rfl rfl)
  have k1 := h1
  have lt1 : ∀ x ∈ p1, x.block < W.heap.size := by obtain ⟨m, hm⟩ := k1; exact DataW.trod_lt m _ _ _ hm
  obtain ⟨xs1, hx1, hy1, hl1, hcap1⟩ := open8 h1 (fun elems spare e => by subst e; exact sized_slice hsz (j := 1) (t := 29) (e := 5) rfl rfl Tryd.underlying29)
  clear hA0 hval0
  refine (walk a0 a1 len0 cap0 len1 cap1 xs0 xs1 W hT hx0 hx1 hy0 hy1 hl0 hl1 (by omega) (by omega)).mono fun e W' ⟨he, hCC⟩ => ?_
  subst he
  have bel := below_of hCC
  exact ⟨_, rfl, _, _, _, [], _, [], hW', trodAll_mk1 (shut_bool Tryd.underlying4 _), (trodAll_cons_mk (Below.trod laidOut (by kernel_rfl) (of_decide_eq_true (by kernel_rfl)) k0 bel lt0) (trodAll_cons_mk (Below.trod laidOut (by kernel_rfl) (of_decide_eq_true (by kernel_rfl)) k1 bel lt1) trodAll_mk0)), rfl, bel.frame _, fun h => by cases h⟩

theorem over : Rows.ShaExtendsSaid :=
  OpenClaim.holds_of_wide 7 Tryd.f7 rfl rfl rfl rfl rfl rfl rfl ⟨rfl, rfl, rfl, rfl, rfl⟩ rfl rfl rfl rfl rfl (by kernel_rfl) Tryd.func7 (by kernel_rfl)
    (of_decide_eq_true (by kernel_rfl)) (by unfold Func.isWrapper; first | (rw [if_pos (by decide +kernel)]; kernel_rfl) | (rw [if_neg (by decide +kernel)]; exact ⟨rfl, rfl⟩))
    (fun os started H enc _ => lifted os started H enc)

theorem card : Rows.ShaExtendsCardSaid :=
  Claim7.holds_tied_plain_at .later [] [.data, .data] true (true, "8b1ae774ebd725d4824cf407a67ed38f8bdfd295c11d528f2d51c47d3ae0cc53") false
    over (fun _ h => by cases h) (by kernel_rfl) (fun _ h => by cases h) shaExtends_row_tie rfl ⟨rfl, rfl⟩ (by kernel_rfl) rfl
    (fun f fn hf hfn => by
      obtain rfl : f = 7 := Option.some.inj ((show Tryd.prog.funcNamed "pith/pithlaw04.ShaExtends" = some 7 by kernel_rfl).symm.trans hf) |>.symm
      obtain rfl : fn = Tryd.f7 := (Option.some.inj (Tryd.func7.symm.trans hfn)).symm
      exact ⟨by kernel_rfl, fun j t ht => by
        rw [Tryd.params7] at ht
        have hm : t ∈ [29, 29] := by simpa using Array.mem_of_getElem? ht
        have hall : ([29, 29].all fun u => !Tryd.prog.wantsStandIn u) = true := by kernel_rfl
        exact (show Tryd.prog.wantsStandIn t = false by simpa using List.all_eq_true.1 hall t hm)⟩)
    (by kernel_rfl)
end Go.Proofs.YtnedllhlmddmoaaDoor.shaExtends
namespace Go.Proofs.YtnedllhlmddmoaaDoor
theorem shaExtends_holds : Rows.ShaExtendsCardSaid := shaExtends.card
#print axioms shaExtends_holds
end Go.Proofs.YtnedllhlmddmoaaDoor
