/- ShaForks holds: for every three lists of bytes handed to the statement's function the call returns true and the arguments read afterwards as they did; the two tables are as the program's text lays them. -/
import Derived.Test.YtnedllhlmddmoaaDoorKnown
import Derived.Test.YtnedllhlmddmoaaDoorCards
import Derived.Test.YtnedllhlmddmoaaDoorTie
import Derived.SevenTiedAt
namespace Go.Proofs.YtnedllhlmddmoaaDoor.shaForks
open Go.ChangeShapes Go.WideShapes Go.ChangeAt Go.RowKit
set_option linter.unusedVariables false

set_option maxHeartbeats 8000000 in
set_option maxRecDepth 100000 in
theorem walk (a b c : Option Addr) (la ca lb cb lc cc_ : Nat) (xa xb xc : List Nat) (w : World) (hT : Tab w) (r_a : Row8 w a la ca (up xa)) (r_b : Row8 w b lb cb (up xb)) (r_c : Row8 w c lc cc_ (up xc)) (hba : Byt xa) (hbb : Byt xb) (hbc : Byt xc)
    (hca : la ≤ ca) (hcb : lb ≤ cb) (hcc : lc ≤ cc_) (hna : la ≤ 140737488351232) (hnb : lb ≤ 140737488351232) (hnc : lc ≤ 140737488351232) :
    Calls Tryd.prog 8 #[.slice a la ca, .slice b lb cb, .slice c lc cc_] w fun e w' => e = .returned (.bool true) ∧ Chg (fun _ => False) w w' := by
  obtain ⟨i0, hi, hz0, hz1, hz2⟩ := info_parts info5
  have hxa : xa.length = la := by rw [← up_length]; exact r_a.1
  have hxb : xb.length = lb := by rw [← up_length]; exact r_b.1
  have hxc : xc.length = lc := by rw [← up_length]; exact r_c.1
  have E1 : [xa, xb, xc].flatten = [] ++ xa ++ xb ++ xc := by simp
  have E2 : [xa, xc].flatten = [] ++ xa ++ xc := by simp
  have T0 := hT
  have C0 : Chg (fun _ => False) w w := Chg.refl _ _
  go_enter Tryd.func8, Tryd.ntmps8
  go_wp2_with fail
  refine (new_any w T0).mono ?_
  rintro e w1 ⟨a_h, rfl, ha, hE, cc⟩
  have b_h : w.heap.size ≤ a_h := Nat.le_trans C0.size ha
  have g_h : 2 ≤ a_h := Nat.le_trans T0.two b_h
  have C1 : Chg (fun _ => False) w w1 := chg_then C0 cc
  have T1 := T0.new C1
  clear cc C0  
  have e_h1 := hE
  clear hE ha
  go_wp2_with fail
  refine (lawknown_any w1 T1).mono ?_
  rintro e w2 ⟨rfl, cc⟩
  have C2 : Chg (fun _ => False) w w2 := chg_then C1 cc
  have T2 := T0.new C2
  have e_h2 := e_h1.new cc
  clear cc T1 C1 e_h1 
  go_wp2_with fail
  refine (fork_any a_h Sha.I 0 ([] : List Nat) w2 e_h2).mono ?_
  rintro e w3 ⟨a_o, rfl, ha, hE, cc⟩
  have b_o : w.heap.size ≤ a_o := Nat.le_trans C2.size ha
  have g_o : 2 ≤ a_o := Nat.le_trans T0.two b_o
  have d_o_h : a_h < a_o := by obtain ⟨_, hq, _, _⟩ := e_h2; have := lt_of_blk hq.blk; omega
  have C3 : Chg (fun _ => False) w w3 := chg_then C2 cc
  have T3 := T0.new C3
  have e_h3 := e_h2.new cc
  clear cc T2 C2 e_h2 
  have e_o3 := hE
  clear hE ha
  have h0 := own_empty w3
  have c0 := chg_one w3 (.cells #[] 5)
  go_wp2_with (at_builtin; refine wpList_append_moved rfl _ _ 29 rfl w3.heap.size 5 i0 (.int .u8 0) 1 1 Tryd.underlying29 hi hz0 hz1 hz2 rfl (by decide) _ 0 (cells8 []) rfl a la ca rfl (cells8 (up xa)) h0 (row8_chg r_a (chg_then C3 c0)).src (oneCells (up xa)) (by unfold maxLen; omega) (by omega) c0.size ?_)
  intro v1 w4 ho1 hg1 _
  have cc : Chg (fun _ => False) w3 w4 := c0.grown hg1 (fun k e => .inr ((h0.lt k e).1))
  rw [cells8_append, List.nil_append] at ho1
  obtain ⟨ba, bc, rfl, hrow, hle, hblk⟩ := own_row8d ho1
  clear hg1 h0 c0 ho1
  have z_h : a_h < w3.heap.size := by obtain ⟨_, hq, _, _⟩ := e_h3; exact lt_of_blk hq.blk
  have z_o : a_o < w3.heap.size := by obtain ⟨_, hq, _, _⟩ := e_o3; exact lt_of_blk hq.blk
  have C4 : Chg (fun _ => False) w w4 := chg_then C3 cc
  have T4 := T0.new C4
  have e_h4 := e_h3.new cc
  have e_o4 := e_o3.new cc
  clear cc T3 C3 e_h3 e_o3 
  go_wp2_with fail
  refine (write_any a_h Sha.I 0 ([] : List Nat) xa ba la bc w4 T4 g_h Sha.I_st rfl e_h4 hrow hba (fun _ y e => by have := hblk y e; omega) (by simp <;> omega) hle).mono ?_
  rintro e w5 ⟨rfl, hE, cc⟩
  have C5 : Chg (fun _ => False) w w5 := C4.trans cc (fun i e => .inr (by omega))
  have T5 := T0.new C5
  have e_h5 := hE
  have e_o5 := e_o4.keep cc (show ¬ a_o = a_h by omega)
  clear cc T4 C4 hE e_h4 e_o4 
  clear hrow hle hblk z_h z_o
  go_wp2_with fail
  refine (fork_any a_h Sha.I 0 (([] : List Nat) ++ xa) w5 e_h5).mono ?_
  rintro e w6 ⟨a_f, rfl, ha, hE, cc⟩
  have b_f : w.heap.size ≤ a_f := Nat.le_trans C5.size ha
  have g_f : 2 ≤ a_f := Nat.le_trans T0.two b_f
  have d_f_h : a_h < a_f := by obtain ⟨_, hq, _, _⟩ := e_h5; have := lt_of_blk hq.blk; omega
  have d_f_o : a_o < a_f := by obtain ⟨_, hq, _, _⟩ := e_o5; have := lt_of_blk hq.blk; omega
  have C6 : Chg (fun _ => False) w w6 := chg_then C5 cc
  have T6 := T0.new C6
  have e_h6 := e_h5.new cc
  have e_o6 := e_o5.new cc
  clear cc T5 C5 e_h5 e_o5 
  have e_f6 := hE
  clear hE ha
  have h0 := own_empty w6
  have c0 := chg_one w6 (.cells #[] 5)
  go_wp2_with (at_builtin; refine wpList_append_moved rfl _ _ 29 rfl w6.heap.size 5 i0 (.int .u8 0) 1 1 Tryd.underlying29 hi hz0 hz1 hz2 rfl (by decide) _ 0 (cells8 []) rfl b lb cb rfl (cells8 (up xb)) h0 (row8_chg r_b (chg_then C6 c0)).src (oneCells (up xb)) (by unfold maxLen; omega) (by omega) c0.size ?_)
  intro v1 w7 ho1 hg1 _
  have cc : Chg (fun _ => False) w6 w7 := c0.grown hg1 (fun k e => .inr ((h0.lt k e).1))
  rw [cells8_append, List.nil_append] at ho1
  obtain ⟨ba, bc, rfl, hrow, hle, hblk⟩ := own_row8d ho1
  clear hg1 h0 c0 ho1
  have z_h : a_h < w6.heap.size := by obtain ⟨_, hq, _, _⟩ := e_h6; exact lt_of_blk hq.blk
  have z_o : a_o < w6.heap.size := by obtain ⟨_, hq, _, _⟩ := e_o6; exact lt_of_blk hq.blk
  have z_f : a_f < w6.heap.size := by obtain ⟨_, hq, _, _⟩ := e_f6; exact lt_of_blk hq.blk
  have C7 : Chg (fun _ => False) w w7 := chg_then C6 cc
  have T7 := T0.new C7
  have e_h7 := e_h6.new cc
  have e_o7 := e_o6.new cc
  have e_f7 := e_f6.new cc
  clear cc T6 C6 e_h6 e_o6 e_f6 
  go_wp2_with fail
  refine (write_any a_h Sha.I 0 (([] : List Nat) ++ xa) xb ba lb bc w7 T7 g_h Sha.I_st rfl e_h7 hrow hbb (fun _ y e => by have := hblk y e; omega) (by simp <;> omega) hle).mono ?_
  rintro e w8 ⟨rfl, hE, cc⟩
  have C8 : Chg (fun _ => False) w w8 := C7.trans cc (fun i e => .inr (by omega))
  have T8 := T0.new C8
  have e_h8 := hE
  have e_o8 := e_o7.keep cc (show ¬ a_o = a_h by omega)
  have e_f8 := e_f7.keep cc (show ¬ a_f = a_h by omega)
  clear cc T7 C7 hE e_h7 e_o7 e_f7 
  clear hrow hle hblk z_h z_o z_f
  have h0 := own_empty w8
  have c0 := chg_one w8 (.cells #[] 5)
  go_wp2_with (at_builtin; refine wpList_append_moved rfl _ _ 29 rfl w8.heap.size 5 i0 (.int .u8 0) 1 1 Tryd.underlying29 hi hz0 hz1 hz2 rfl (by decide) _ 0 (cells8 []) rfl c lc cc_ rfl (cells8 (up xc)) h0 (row8_chg r_c (chg_then C8 c0)).src (oneCells (up xc)) (by unfold maxLen; omega) (by omega) c0.size ?_)
  intro v1 w9 ho1 hg1 _
  have cc : Chg (fun _ => False) w8 w9 := c0.grown hg1 (fun k e => .inr ((h0.lt k e).1))
  rw [cells8_append, List.nil_append] at ho1
  obtain ⟨ba, bc, rfl, hrow, hle, hblk⟩ := own_row8d ho1
  clear hg1 h0 c0 ho1
  have z_h : a_h < w8.heap.size := by obtain ⟨_, hq, _, _⟩ := e_h8; exact lt_of_blk hq.blk
  have z_o : a_o < w8.heap.size := by obtain ⟨_, hq, _, _⟩ := e_o8; exact lt_of_blk hq.blk
  have z_f : a_f < w8.heap.size := by obtain ⟨_, hq, _, _⟩ := e_f8; exact lt_of_blk hq.blk
  have C9 : Chg (fun _ => False) w w9 := chg_then C8 cc
  have T9 := T0.new C9
  have e_h9 := e_h8.new cc
  have e_o9 := e_o8.new cc
  have e_f9 := e_f8.new cc
  clear cc T8 C8 e_h8 e_o8 e_f8 
  go_wp2_with fail
  refine (write_any a_f Sha.I 0 (([] : List Nat) ++ xa) xc ba lc bc w9 T9 g_f Sha.I_st rfl e_f9 hrow hbc (fun _ y e => by have := hblk y e; omega) (by simp <;> omega) hle).mono ?_
  rintro e w10 ⟨rfl, hE, cc⟩
  have C10 : Chg (fun _ => False) w w10 := C9.trans cc (fun i e => .inr (by omega))
  have T10 := T0.new C10
  have e_h10 := e_h9.keep cc (show ¬ a_h = a_f by omega)
  have e_o10 := e_o9.keep cc (show ¬ a_o = a_f by omega)
  have e_f10 := hE
  clear cc T9 C9 hE e_h9 e_o9 e_f9 
  clear hrow hle hblk z_h z_o z_f
  have h0 := own_empty w10
  have c0 := chg_one w10 (.cells #[] 5)
  go_wp2_with (at_builtin; refine wpList_append_moved rfl _ _ 29 rfl w10.heap.size 5 i0 (.int .u8 0) 1 1 Tryd.underlying29 hi hz0 hz1 hz2 rfl (by decide) _ 0 (cells8 []) rfl c lc cc_ rfl (cells8 (up xc)) h0 (row8_chg r_c (chg_then C10 c0)).src (oneCells (up xc)) (by unfold maxLen; omega) (by omega) c0.size ?_)
  intro v1 w11 ho1 hg1 _
  have cc : Chg (fun _ => False) w10 w11 := c0.grown hg1 (fun k e => .inr ((h0.lt k e).1))
  rw [cells8_append, List.nil_append] at ho1
  obtain ⟨ba, bc, rfl, hrow, hle, hblk⟩ := own_row8d ho1
  clear hg1 h0 c0 ho1
  have z_h : a_h < w10.heap.size := by obtain ⟨_, hq, _, _⟩ := e_h10; exact lt_of_blk hq.blk
  have z_o : a_o < w10.heap.size := by obtain ⟨_, hq, _, _⟩ := e_o10; exact lt_of_blk hq.blk
  have z_f : a_f < w10.heap.size := by obtain ⟨_, hq, _, _⟩ := e_f10; exact lt_of_blk hq.blk
  have C11 : Chg (fun _ => False) w w11 := chg_then C10 cc
  have T11 := T0.new C11
  have e_h11 := e_h10.new cc
  have e_o11 := e_o10.new cc
  have e_f11 := e_f10.new cc
  clear cc T10 C10 e_h10 e_o10 e_f10 
  go_wp2_with fail
  refine (write_any a_h Sha.I 0 ((([] : List Nat) ++ xa) ++ xb) xc ba lc bc w11 T11 g_h Sha.I_st rfl e_h11 hrow hbc (fun _ y e => by have := hblk y e; omega) (by simp <;> omega) hle).mono ?_
  rintro e w12 ⟨rfl, hE, cc⟩
  have C12 : Chg (fun _ => False) w w12 := C11.trans cc (fun i e => .inr (by omega))
  have T12 := T0.new C12
  have e_h12 := hE
  have e_o12 := e_o11.keep cc (show ¬ a_o = a_h by omega)
  have e_f12 := e_f11.keep cc (show ¬ a_f = a_h by omega)
  clear cc T11 C11 hE e_h11 e_o11 e_f11 
  clear hrow hle hblk z_h z_o z_f
  go_wp2_with fail
  refine (hsum_any a_h Sha.I 0 (((([] : List Nat) ++ xa) ++ xb) ++ xc) w12 T12 Sha.I_st rfl e_h12 (by simp <;> omega)).mono ?_
  rintro e w13 ⟨rfl, cc⟩
  have l_D1 : (Sha.sum Sha.I 0 (((([] : List Nat) ++ xa) ++ xb) ++ xc)).length = 32 := Sha.told_len _
  generalize hq : Sha.sum Sha.I 0 (((([] : List Nat) ++ xa) ++ xb) ++ xc) = D1 at *
  have HD1 : Hid (Sha.sum Sha.I 0 (((([] : List Nat) ++ xa) ++ xb) ++ xc) = D1) := hq
  clear hq
  have C13 : Chg (fun _ => False) w w13 := chg_then C12 cc
  have T13 := T0.new C13
  have e_h13 := e_h12.new cc
  have e_o13 := e_o12.new cc
  have e_f13 := e_f12.new cc
  clear cc T12 C12 e_h12 e_o12 e_f12 
  go_wp2_with fail
  have pp := pieces_three 29 ⟨_, _, _, rfl, (row8_chg r_a C13), hba, hca⟩ ⟨_, _, _, rfl, (row8_chg r_b C13), hbb, hcb⟩ ⟨_, _, _, rfl, (row8_chg r_c C13), hbc, hcc⟩
  have cc := chg_one w13 (.cells #[.slice a la ca, .slice b lb cb, .slice c lc cc_] 29)
  generalize hwx : w13.alloc (.cells #[.slice a la ca, .slice b lb cb, .slice c lc cc_] 29) = w14 at *
  have C14 : Chg (fun _ => False) w w14 := chg_then C13 cc
  have T14 := T0.new C14
  have e_h14 := e_h13.new cc
  have e_o14 := e_o13.new cc
  have e_f14 := e_f13.new cc
  clear cc T13 C13 e_h13 e_o13 e_f13 
  clear hwx
  refine (sum_some _ 3 3 [xa, xb, xc] w14 T14 pp rfl (by decide) (by simp <;> omega)).mono ?_
  rintro e w15 ⟨rfl, cc⟩
  clear pp
  rw [E1, HD1.out]
  have C15 : Chg (fun _ => False) w w15 := chg_then C14 cc
  have T15 := T0.new C15
  have e_h15 := e_h14.new cc
  have e_o15 := e_o14.new cc
  have e_f15 := e_f14.new cc
  clear cc T14 C14 e_h14 e_o14 e_f14 
  have q15 := same32 w15 D1 l_D1
  go_wp2_with fail
  refine (hsum_any a_f Sha.I 0 ((([] : List Nat) ++ xa) ++ xc) w15 T15 Sha.I_st rfl e_f15 (by simp <;> omega)).mono ?_
  rintro e w16 ⟨rfl, cc⟩
  have l_D2 : (Sha.sum Sha.I 0 ((([] : List Nat) ++ xa) ++ xc)).length = 32 := Sha.told_len _
  generalize hq : Sha.sum Sha.I 0 ((([] : List Nat) ++ xa) ++ xc) = D2 at *
  have HD2 : Hid (Sha.sum Sha.I 0 ((([] : List Nat) ++ xa) ++ xc) = D2) := hq
  clear hq
  have C16 : Chg (fun _ => False) w w16 := chg_then C15 cc
  have T16 := T0.new C16
  have e_h16 := e_h15.new cc
  have e_o16 := e_o15.new cc
  have e_f16 := e_f15.new cc
  clear cc T15 C15 e_h15 e_o15 e_f15 
  go_wp2_with fail
  have pp := pieces_two 29 ⟨_, _, _, rfl, (row8_chg r_a C16), hba, hca⟩ ⟨_, _, _, rfl, (row8_chg r_c C16), hbc, hcc⟩
  have cc := chg_one w16 (.cells #[.slice a la ca, .slice c lc cc_] 29)
  generalize hwx : w16.alloc (.cells #[.slice a la ca, .slice c lc cc_] 29) = w17 at *
  have C17 : Chg (fun _ => False) w w17 := chg_then C16 cc
  have T17 := T0.new C17
  have e_h17 := e_h16.new cc
  have e_o17 := e_o16.new cc
  have e_f17 := e_f16.new cc
  clear cc T16 C16 e_h16 e_o16 e_f16 
  clear hwx
  refine (sum_some _ 2 2 [xa, xc] w17 T17 pp rfl (by decide) (by simp <;> omega)).mono ?_
  rintro e w18 ⟨rfl, cc⟩
  clear pp
  rw [E2, HD2.out]
  have C18 : Chg (fun _ => False) w w18 := chg_then C17 cc
  have T18 := T0.new C18
  have e_h18 := e_h17.new cc
  have e_o18 := e_o17.new cc
  have e_f18 := e_f17.new cc
  clear cc T17 C17 e_h17 e_o17 e_f17 
  have q18 := same32 w18 D2 l_D2
  go_wp2_with fail
  refine (hsum_any a_o Sha.I 0 ([] : List Nat) w18 T18 Sha.I_st rfl e_o18 (by simp <;> omega)).mono ?_
  rintro e w19 ⟨rfl, cc⟩
  have l_D3 : (Sha.sum Sha.I 0 ([] : List Nat)).length = 32 := Sha.told_len _
  generalize hq : Sha.sum Sha.I 0 ([] : List Nat) = D3 at *
  have HD3 : Hid (Sha.sum Sha.I 0 ([] : List Nat) = D3) := hq
  clear hq
  have C19 : Chg (fun _ => False) w w19 := chg_then C18 cc
  have T19 := T0.new C19
  have e_h19 := e_h18.new cc
  have e_o19 := e_o18.new cc
  have e_f19 := e_f18.new cc
  clear cc T18 C18 e_h18 e_o18 e_f18 
  go_wp2_with fail
  refine (sum_none w19 T19).mono ?_
  rintro e w20 ⟨rfl, cc⟩
  rw [HD3.out]
  have C20 : Chg (fun _ => False) w w20 := chg_then C19 cc
  have T20 := T0.new C20
  have e_h20 := e_h19.new cc
  have e_o20 := e_o19.new cc
  have e_f20 := e_f19.new cc
  clear cc T19 C19 e_h19 e_o19 e_f19 
  have q20 := same32 w20 D3 l_D3
  go_wp2_with fail
  refine (len_any a_o Sha.I 0 ([] : List Nat) w20 e_o20).mono ?_
  rintro e wx ⟨rfl, rfl⟩
  have hv : 0 + ([] : List Nat).length = 0 := rfl
  rw [hv]
  clear hv
  go_wp2_with fail
  refine (len_any a_f Sha.I 0 ((([] : List Nat) ++ xa) ++ xc) w20 e_f20).mono ?_
  rintro e wx ⟨rfl, rfl⟩
  have hv : 0 + ((([] : List Nat) ++ xa) ++ xc).length = la + lc := by simp <;> omega
  rw [hv]
  clear hv
  go_wp2
  go_ret
  exact ⟨rfl, C20⟩
set_option maxRecDepth 100000 in
theorem lifted (os : Os) (started : os.Started) (H : Type) (enc : TypeId × Value → H) :
    ReturnsInHanded {} Tryd.checked os 8 .any (fun w args => (Rows.shaForksSpec.pre enc Tryd.prog Tryd.f8 [] false w args ∧ laidMetH Tryd.prog [("pith/sha.first", Rows.laid_pith_sha_first), ("pith/sha.constants", Rows.laid_pith_sha_constants)] w) ∧ sizedMet enc Tryd.prog Tryd.f8 (OpenSpec.ofChange Rows.shaForksSpec) false w args)
      (Rows.shaForksSpec.post enc Tryd.prog Tryd.f8 false true false false) := by
  refine returnsInHanded_of_change_and (C := Tryd.checked) (X := fun w _ => laidMetH Tryd.prog [("pith/sha.first", Rows.laid_pith_sha_first), ("pith/sha.constants", Rows.laid_pith_sha_constants)] w) (fun _ _ _ hh h => h.of_heap hh) own started (by kernel_rfl) Tryd.func8
    (ChangeSpec.witness_shaped (enc := enc) (C := Tryd.checked) (os := os) (X := fun w _ => laidMetH Tryd.prog [("pith/sha.first", Rows.laid_pith_sha_first), ("pith/sha.constants", Rows.laid_pith_sha_constants)] w) false (World.doorLaid Tryd.prog 400 os) #[.slice none 0 0, .slice none 0 0, .slice none 0 0] 8 rfl (World.shaped_of_RefB (by kernel_rfl) (by kernel_rfl)) (by kernel_rfl) (by kernel_rfl) (by kernel_rfl) (door_met os _)) ?_
  intro W base args ds gs before hval0 hW _ hsz0 hL _
  have hsz : (DataW.weightsEach Tryd.prog (Tryd.f8.params.toList ++ Rows.shaForksSpec.plain.varTypes Tryd.prog) (ds ++ gs)).all (· ≤ reachBytes) = true := hsz0
  clear hsz0
  have hT := tab_of_laid hL
  have hval : ∀ (j : Nat) t v, Tryd.f8.params[j]? = some t → args[j]? = some v → Value.okWide Tryd.prog W .any base t v := hval0
  have hW' := hW
  obtain ⟨p, q, hA0, hV, rfl, hfz, hnd⟩ := hW
  have hA : DataW.TrodAll enc Tryd.prog W 0 (fun _ => true) true Tryd.f8.params.toList args.toList ds p := hA0
  rw [Tryd.params8] at hA hval hsz
  obtain ⟨v0, vs0, d0, ds0, p0, q0, hargs, rfl, rfl, h0, r0⟩ := trodAll_cons hA
  obtain ⟨v1, vs1, d1, ds1, p1, q1, rfl, rfl, rfl, h1, r1⟩ := trodAll_cons r0
  obtain ⟨v2, vs2, d2, ds2, p2, q2, rfl, rfl, rfl, h2, r2⟩ := trodAll_cons r1
  obtain ⟨rfl, rfl, rfl⟩ := trodAll_nil r2
  obtain rfl : args = #[v0, v1, v2] := by cases args; simp_all
  obtain ⟨rfl, rfl⟩ := trodVars_none hV
  obtain ⟨a0, len0, cap0, rfl⟩ := okWide_slice Tryd.underlying29 (hval 0 29 v0 rfl rfl)
  have k0 := h0
  have lt0 : ∀ x ∈ p0, x.block < W.heap.size := by obtain ⟨m, hm⟩ := k0; exact DataW.trod_lt m _ _ _ hm
  obtain ⟨xs0, hx0, hy0, hl0, hcap0⟩ := open8 h0 (fun elems spare e => by subst e; exact sized_slice hsz (j := 0) (t := 29) (e := 5) rfl rfl Tryd.underlying29)
  obtain ⟨a1, len1, cap1, rfl⟩ := okWide_slice Tryd.underlying29 (hval 1 29 v1 rfl rfl)
  have k1 := h1
  have lt1 : ∀ x ∈ p1, x.block < W.heap.size := by obtain ⟨m, hm⟩ := k1; exact DataW.trod_lt m _ _ _ hm
  obtain ⟨xs1, hx1, hy1, hl1, hcap1⟩ := open8 h1 (fun elems spare e => by subst e; exact sized_slice hsz (j := 1) (t := 29) (e := 5) rfl rfl Tryd.underlying29)
  obtain ⟨a2, len2, cap2, rfl⟩ := okWide_slice Tryd.underlying29 (hval 2 29 v2 rfl rfl)
  have k2 := h2
  have lt2 : ∀ x ∈ p2, x.block < W.heap.size := by obtain ⟨m, hm⟩ := k2; exact DataW.trod_lt m _ _ _ hm
  obtain ⟨xs2, hx2, hy2, hl2, hcap2⟩ := open8 h2 (fun elems spare e => by subst e; exact sized_slice hsz (j := 2) (t := 29) (e := 5) rfl rfl Tryd.underlying29)
  clear hA0 hval0
  refine (walk a0 a1 a2 len0 cap0 len1 cap1 len2 cap2 xs0 xs1 xs2 W hT hx0 hx1 hx2 hy0 hy1 hy2 hl0 hl1 hl2 (by omega) (by omega) (by omega)).mono fun e W' ⟨he, hCC⟩ => ?_
  subst he
  have bel := below_of hCC
  exact ⟨_, rfl, _, _, _, [], _, [], hW', trodAll_mk1 (shut_bool Tryd.underlying4 _), (trodAll_cons_mk (Below.trod laidOut (by kernel_rfl) (of_decide_eq_true (by kernel_rfl)) k0 bel lt0) (trodAll_cons_mk (Below.trod laidOut (by kernel_rfl) (of_decide_eq_true (by kernel_rfl)) k1 bel lt1) (trodAll_cons_mk (Below.trod laidOut (by kernel_rfl) (of_decide_eq_true (by kernel_rfl)) k2 bel lt2) trodAll_mk0))), rfl, bel.frame _, fun h => by cases h⟩

theorem over : Rows.ShaForksSaid :=
  OpenClaim.holds_of_wide 8 Tryd.f8 rfl rfl rfl rfl rfl rfl rfl ⟨rfl, rfl, rfl, rfl, rfl⟩ rfl rfl rfl rfl rfl (by kernel_rfl) Tryd.func8 (by kernel_rfl)
    (of_decide_eq_true (by kernel_rfl)) (by unfold Func.isWrapper; first | (rw [if_pos (by decide +kernel)]; kernel_rfl) | (rw [if_neg (by decide +kernel)]; exact ⟨rfl, rfl⟩))
    (fun os started H enc _ => lifted os started H enc)

theorem card : Rows.ShaForksCardSaid :=
  Claim7.holds_tied_plain_at .later [] [.data, .data] true (true, "8b1ae774ebd725d4824cf407a67ed38f8bdfd295c11d528f2d51c47d3ae0cc53") false
    over (fun _ h => by cases h) (by kernel_rfl) (fun _ h => by cases h) shaForks_row_tie rfl ⟨rfl, rfl⟩ (by kernel_rfl) rfl
    (fun f fn hf hfn => by
      obtain rfl : f = 8 := Option.some.inj ((show Tryd.prog.funcNamed "pith/pithlaw04.ShaForks" = some 8 by kernel_rfl).symm.trans hf) |>.symm
      obtain rfl : fn = Tryd.f8 := (Option.some.inj (Tryd.func8.symm.trans hfn)).symm
      exact ⟨by kernel_rfl, fun j t ht => by
        rw [Tryd.params8] at ht
        have hm : t ∈ [29, 29, 29] := by simpa using Array.mem_of_getElem? ht
        have hall : ([29, 29, 29].all fun u => !Tryd.prog.wantsStandIn u) = true := by kernel_rfl
        exact (show Tryd.prog.wantsStandIn t = false by simpa using List.all_eq_true.1 hall t hm)⟩)
    (by kernel_rfl)
end Go.Proofs.YtnedllhlmddmoaaDoor.shaForks
namespace Go.Proofs.YtnedllhlmddmoaaDoor
theorem shaForks_holds : Rows.ShaForksCardSaid := shaForks.card
#print axioms shaForks_holds
end Go.Proofs.YtnedllhlmddmoaaDoor
