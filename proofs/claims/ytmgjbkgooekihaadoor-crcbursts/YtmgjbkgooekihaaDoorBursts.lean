/- CrcBursts holds: for every list of bytes, every number and every mask handed to the statement's function the call returns true and the arguments read afterwards as they did; the two tables are as the program's text lays them. -/
import Derived.Test.YtmgjbkgooekihaaDoorStr
import Derived.Test.YtmgjbkgooekihaaDoorFacts
import Derived.Test.YtmgjbkgooekihaaDoorCards
import Derived.Test.YtmgjbkgooekihaaDoorTie
import Derived.SevenTiedAt
import Derived.Test.YtmgjbkgooekihaaDoorBurst
namespace Go.Proofs.YtmgjbkgooekihaaDoor.crcBursts
open Go.ChangeShapes Go.WideShapes Go.ChangeAt Go.RowKit
set_option linter.unusedVariables false

theorem one (xs : List Nat) : [xs].flatten = xs := by simp

/-- Bits that are turned among 32 in a row are told. -/
theorem told32 {xs l : List Nat} {at_ M q : Nat} (h : Turned xs l at_ 32 M) (hq : q = 0 ↔ M = 0) : (Crc.more Crc.P32 32 0 l = Crc.more Crc.P32 32 0 xs) ↔ q = 0 := by
  rw [hq]
  unfold Crc.more
  rw [h.raw, ← Nat.xor_assoc]
  constructor
  · intro e
    have e2 : Crc.itr Crc.P32 (8 * xs.length - at_) M = 0 := by
      generalize Crc.itr Crc.P32 (8 * xs.length - at_) M = z at *
      have := Crc.xor_left_inj (e.trans (Nat.xor_zero _).symm)
      exact this
    exact Crc.itr_inj0 (P := Crc.P32) (w := 31) (by decide) (by decide) _ h.small e2
  · intro e
    rw [e, Crc.itr_zero, Nat.xor_zero]
/-- Bits that are turned among 64 in a row are told. -/
theorem told64 {xs l : List Nat} {at_ M q : Nat} (h : Turned xs l at_ 64 M) (hq : q = 0 ↔ M = 0) : (Crc.more Crc.P64 64 0 l = Crc.more Crc.P64 64 0 xs) ↔ q = 0 := by
  rw [hq]
  unfold Crc.more
  rw [h.raw, ← Nat.xor_assoc]
  constructor
  · intro e
    have e2 : Crc.itr Crc.P64 (8 * xs.length - at_) M = 0 := by
      generalize Crc.itr Crc.P64 (8 * xs.length - at_) M = z at *
      have := Crc.xor_left_inj (e.trans (Nat.xor_zero _).symm)
      exact this
    exact Crc.itr_inj0 (P := Crc.P64) (w := 63) (by decide) (by decide) _ h.small e2
  · intro e
    rw [e, Crc.itr_zero, Nat.xor_zero]

theorem place (at_ : Int) (n : Nat) (hn : n ≤ 140737488351232) (h0 : -9223372036854775808 ≤ at_) (h1 : at_ ≤ 9223372036854775807) : (0 ≤ at_.tmod (8 * n + 1) ∧ at_.tmod (8 * n + 1) ≤ 8 * n) ∨ (at_.tmod (8 * n + 1) < 0 ∧ - (8 * n : Int) ≤ at_.tmod (8 * n + 1)) := by
  have hp : (0 : Int) < 8 * n + 1 := by omega
  rcases Int.lt_or_le at_ 0 with h | h
  · have e : at_.tmod (8 * n + 1) = - (-at_).tmod (8 * n + 1) := by rw [Int.neg_tmod]; simp
    have k1 := Int.tmod_nonneg (8 * n + 1) (show 0 ≤ -at_ by omega)
    have k2 := Int.tmod_lt_of_pos (-at_) hp
    omega
  · have k1 := Int.tmod_nonneg (8 * n + 1) h
    have k2 := Int.tmod_lt_of_pos at_ hp
    omega

theorem eq32 {xs l : List Nat} {at_ M q : Nat} (h : Turned xs l at_ 32 M) (hq : q = 0 ↔ M = 0) : ((Crc.more Crc.P32 32 0 l : Nat) == ((Crc.more Crc.P32 32 0 xs : Nat) : Int)) = decide (q = 0) := by
  have := told32 h hq
  by_cases e : q = 0
  · rw [decide_eq_true e, beq_iff_eq]
    rw [this.2 e]
  · rw [decide_eq_false e, beq_eq_false_iff_ne]
    intro k
    exact e (this.1 (by omega))
theorem eq64 {xs l : List Nat} {at_ M q : Nat} (h : Turned xs l at_ 64 M) (hq : q = 0 ↔ M = 0) : ((Crc.more Crc.P64 64 0 l : Nat) == ((Crc.more Crc.P64 64 0 xs : Nat) : Int)) = decide (q = 0) := by
  have := told64 h hq
  by_cases e : q = 0
  · rw [decide_eq_true e, beq_iff_eq]
    rw [this.2 e]
  · rw [decide_eq_false e, beq_eq_false_iff_ne]
    intro k
    exact e (this.1 (by omega))

theorem zero_eq (q : Nat) : ((q : Int) == 0) = decide (q = 0) := by
  by_cases e : q = 0
  · rw [decide_eq_true e, e]; rfl
  · rw [decide_eq_false e, beq_eq_false_iff_ne]
    omega

set_option maxHeartbeats 4000000 in
theorem walk (a : Option Addr) (n c : Nat) (xs : List Nat) (at_ : Int) (wa : (Lit.int .i64 at_).wf = true) (mask : Int) (wm : (Lit.int .u64 mask).wf = true) (w : World) (hT : Tab w) (hx : Row8 w a n c (up xs)) (hb : Byt xs) (hn : n ≤ 140737488351232) :
    Calls Tryd.prog 4 #[.slice a n c, .int .i64 at_, .int .u64 mask] w fun e w' => e = .returned (.bool true) ∧ Chg (fun _ => False) w w' := by
  obtain ⟨ba, bb⟩ := bounds_i64 wa
  obtain ⟨ma, mb⟩ := bounds_u64 wm
  obtain ⟨m, rfl⟩ : ∃ m : Nat, mask = m := ⟨mask.toNat, by omega⟩
  have hm : m < 18446744073709551616 := by omega
  have hpl := place at_ n hn ba bb
  have hne : ((8 * n : Int) + 1 == 0) = false := beq_eq_false_iff_ne.2 (by omega)
  go_enter Tryd.func4, Tryd.ntmps4
  generalize hz : at_.tmod (8 * n + 1) = z at *
  go_wp2_with fail
  · obtain ⟨Z, hZ⟩ : ∃ Z : Nat, z + 8 * n + 1 = Z := ⟨(z + 8 * n + 1).toNat, by omega⟩
    rw [hZ]
    have hZ8 : Z ≤ 8 * n := by omega
    clear hZ hz hpl hne
    refine (burst_any a n c xs Z m 32 w hx hb hn hZ8 hm (by decide)).mono ?_
    rintro e w1 ⟨ad1, k1, l1, q1, M1, rfl, r1, t1, u1, v1, c1⟩
    have hT1 := hT.new c1
    have hx1 := row8_chg hx c1
    clear hx hT
    have L1 := t1.len
    have B1 := t1.byt
    have E1 := eq32 t1 u1
    have F1 := zero_eq q1
    clear t1 u1
    go_wp2_with fail
    refine (burst_any a n c xs Z m 64 w1 hx1 hb hn hZ8 hm (by decide)).mono ?_
    rintro e w2 ⟨ad2, k2, l2, q2, M2, rfl, r2, t2, u2, v2, c2⟩
    have hT2 := hT1.new c2
    have hx2 := row8_chg hx1 c2
    have r12 := row8_chg r1 c2
    have c02 := chg_then c1 c2
    clear hx1 hT1 c1 c2 r1
    have L2 := t2.len
    have B2 := t2.byt
    have E2 := eq64 t2 u2
    have F2 := zero_eq q2
    clear t2 u2
    generalize decide (q1 = 0) = d1 at *
    generalize decide (q2 = 0) = d2 at *
    go_wp2_with fail
    refine (sum32_any _ 1 1 [l1] _ (hT2.new (chg_one w2 _)) (pieces_one 22 ⟨_, n, k1, rfl, r12, B1, by omega⟩) rfl (by decide)).mono ?_
    rintro e w3 ⟨rfl, rfl⟩
    rw [one]
    have c3 := chg_one w2 (.cells #[.slice ad1 n k1] 22)
    have hT3 := hT2.new c3
    have hx3 := row8_chg hx2 c3
    have r23 := row8_chg r2 c3
    have c03 := chg_then c02 c3
    clear hT2 hx2 r2 c02 c3 r12
    generalize hw3 : w2.alloc (.cells #[.slice ad1 n k1] 22) = w3 at *
    go_wp2_with fail
    refine (sum32_any _ 1 1 [xs] _ (hT3.new (chg_one w3 _)) (pieces_one 22 ⟨_, n, c, rfl, hx3, hb, by omega⟩) rfl (by decide)).mono ?_
    rintro e w4 ⟨rfl, rfl⟩
    rw [one]
    have c4 := chg_one w3 (.cells #[.slice a n c] 22)
    have hT4 := hT3.new c4
    have hx4 := row8_chg hx3 c4
    have r24 := row8_chg r23 c4
    have c04 := chg_then c03 c4
    clear hT3 hx3 r23 c03 c4 hw3
    generalize hw4 : w3.alloc (.cells #[.slice a n c] 22) = w4 at *
    generalize Crc.more Crc.P32 32 0 l1 = s1 at *
    generalize Crc.more Crc.P32 32 0 xs = s2 at *
    go_wp2_with fail
    refine (sum64_any _ 1 1 [l2] _ (hT4.new (chg_one w4 _)) (pieces_one 22 ⟨_, n, k2, rfl, r24, B2, by omega⟩) rfl (by decide)).mono ?_
    rintro e w5 ⟨rfl, rfl⟩
    rw [one]
    have c5 := chg_one w4 (.cells #[.slice ad2 n k2] 22)
    have hT5 := hT4.new c5
    have hx5 := row8_chg hx4 c5
    have c05 := chg_then c04 c5
    clear hT4 hx4 r24 c04 c5 hw4
    generalize hw5 : w4.alloc (.cells #[.slice ad2 n k2] 22) = w5 at *
    go_wp2_with fail
    refine (sum64_any _ 1 1 [xs] _ (hT5.new (chg_one w5 _)) (pieces_one 22 ⟨_, n, c, rfl, hx5, hb, by omega⟩) rfl (by decide)).mono ?_
    rintro e w6 ⟨rfl, rfl⟩
    rw [one]
    have c6 := chg_one w5 (.cells #[.slice a n c] 22)
    have hT6 := hT5.new c6
    have c06 := chg_then c05 c6
    clear hT5 hx5 c05 c6 hw5
    generalize hw6 : w5.alloc (.cells #[.slice a n c] 22) = w6 at *
    generalize Crc.more Crc.P64 64 0 l2 = s3 at *
    generalize Crc.more Crc.P64 64 0 xs = s4 at *
    go_wp2_with fail
    refine (fixed_any w6 hT6).mono ?_
    rintro e w7 ⟨rfl, c7⟩
    go_wp2
    go_ret
    exact ⟨rfl, chg_then c06 c7⟩
  · obtain ⟨Z, rfl⟩ : ∃ Z : Nat, z = Z := ⟨z.toNat, by omega⟩
    have hZ8 : Z ≤ 8 * n := by omega
    clear hz hpl hne
    refine (burst_any a n c xs Z m 32 w hx hb hn hZ8 hm (by decide)).mono ?_
    rintro e w1 ⟨ad1, k1, l1, q1, M1, rfl, r1, t1, u1, v1, c1⟩
    have hT1 := hT.new c1
    have hx1 := row8_chg hx c1
    clear hx hT
    have L1 := t1.len
    have B1 := t1.byt
    have E1 := eq32 t1 u1
    have F1 := zero_eq q1
    clear t1 u1
    go_wp2_with fail
    refine (burst_any a n c xs Z m 64 w1 hx1 hb hn hZ8 hm (by decide)).mono ?_
    rintro e w2 ⟨ad2, k2, l2, q2, M2, rfl, r2, t2, u2, v2, c2⟩
    have hT2 := hT1.new c2
    have hx2 := row8_chg hx1 c2
    have r12 := row8_chg r1 c2
    have c02 := chg_then c1 c2
    clear hx1 hT1 c1 c2 r1
    have L2 := t2.len
    have B2 := t2.byt
    have E2 := eq64 t2 u2
    have F2 := zero_eq q2
    clear t2 u2
    generalize decide (q1 = 0) = d1 at *
    generalize decide (q2 = 0) = d2 at *
    go_wp2_with fail
    refine (sum32_any _ 1 1 [l1] _ (hT2.new (chg_one w2 _)) (pieces_one 22 ⟨_, n, k1, rfl, r12, B1, by omega⟩) rfl (by decide)).mono ?_
    rintro e w3 ⟨rfl, rfl⟩
    rw [one]
    have c3 := chg_one w2 (.cells #[.slice ad1 n k1] 22)
    have hT3 := hT2.new c3
    have hx3 := row8_chg hx2 c3
    have r23 := row8_chg r2 c3
    have c03 := chg_then c02 c3
    clear hT2 hx2 r2 c02 c3 r12
    generalize hw3 : w2.alloc (.cells #[.slice ad1 n k1] 22) = w3 at *
    go_wp2_with fail
    refine (sum32_any _ 1 1 [xs] _ (hT3.new (chg_one w3 _)) (pieces_one 22 ⟨_, n, c, rfl, hx3, hb, by omega⟩) rfl (by decide)).mono ?_
    rintro e w4 ⟨rfl, rfl⟩
    rw [one]
    have c4 := chg_one w3 (.cells #[.slice a n c] 22)
    have hT4 := hT3.new c4
    have hx4 := row8_chg hx3 c4
    have r24 := row8_chg r23 c4
    have c04 := chg_then c03 c4
    clear hT3 hx3 r23 c03 c4 hw3
    generalize hw4 : w3.alloc (.cells #[.slice a n c] 22) = w4 at *
    generalize Crc.more Crc.P32 32 0 l1 = s1 at *
    generalize Crc.more Crc.P32 32 0 xs = s2 at *
    go_wp2_with fail
    refine (sum64_any _ 1 1 [l2] _ (hT4.new (chg_one w4 _)) (pieces_one 22 ⟨_, n, k2, rfl, r24, B2, by omega⟩) rfl (by decide)).mono ?_
    rintro e w5 ⟨rfl, rfl⟩
    rw [one]
    have c5 := chg_one w4 (.cells #[.slice ad2 n k2] 22)
    have hT5 := hT4.new c5
    have hx5 := row8_chg hx4 c5
    have c05 := chg_then c04 c5
    clear hT4 hx4 r24 c04 c5 hw4
    generalize hw5 : w4.alloc (.cells #[.slice ad2 n k2] 22) = w5 at *
    go_wp2_with fail
    refine (sum64_any _ 1 1 [xs] _ (hT5.new (chg_one w5 _)) (pieces_one 22 ⟨_, n, c, rfl, hx5, hb, by omega⟩) rfl (by decide)).mono ?_
    rintro e w6 ⟨rfl, rfl⟩
    rw [one]
    have c6 := chg_one w5 (.cells #[.slice a n c] 22)
    have hT6 := hT5.new c6
    have c06 := chg_then c05 c6
    clear hT5 hx5 c05 c6 hw5
    generalize hw6 : w5.alloc (.cells #[.slice a n c] 22) = w6 at *
    generalize Crc.more Crc.P64 64 0 l2 = s3 at *
    generalize Crc.more Crc.P64 64 0 xs = s4 at *
    go_wp2_with fail
    refine (fixed_any w6 hT6).mono ?_
    rintro e w7 ⟨rfl, c7⟩
    go_wp2
    go_ret
    exact ⟨rfl, chg_then c06 c7⟩
set_option maxRecDepth 100000 in
theorem lifted (os : Os) (started : os.Started) (H : Type) (enc : TypeId × Value → H) :
    ReturnsInHanded {} Tryd.checked os 4 .any (fun w args => (Rows.crcBurstsSpec.pre enc Tryd.prog Tryd.f4 [] false w args ∧ laidMetH Tryd.prog [("pith/crc.half32", Rows.laid_pith_crc_half32), ("pith/crc.half64", Rows.laid_pith_crc_half64)] w) ∧ sizedMet enc Tryd.prog Tryd.f4 (OpenSpec.ofChange Rows.crcBurstsSpec) false w args)
      (Rows.crcBurstsSpec.post enc Tryd.prog Tryd.f4 false true false false) := by
  refine returnsInHanded_of_change_and (C := Tryd.checked) (X := fun w _ => laidMetH Tryd.prog [("pith/crc.half32", Rows.laid_pith_crc_half32), ("pith/crc.half64", Rows.laid_pith_crc_half64)] w) (fun _ _ _ hh h => h.of_heap hh) own started (by kernel_rfl) Tryd.func4
    (ChangeSpec.witness_shaped (enc := enc) (C := Tryd.checked) (os := os) (X := fun w _ => laidMetH Tryd.prog [("pith/crc.half32", Rows.laid_pith_crc_half32), ("pith/crc.half64", Rows.laid_pith_crc_half64)] w) false (World.doorLaid Tryd.prog 400 os) #[.slice none 0 0, .int .i64 0, .int .u64 0] 8 rfl (World.shaped_of_RefB (by kernel_rfl) (by kernel_rfl)) (by kernel_rfl) (by kernel_rfl) (by kernel_rfl) (door_met os _)) ?_
  intro W base args ds gs before hval0 hW _ hsz0 hL _
  have hsz : (DataW.weightsEach Tryd.prog (Tryd.f4.params.toList ++ Rows.crcBurstsSpec.plain.varTypes Tryd.prog) (ds ++ gs)).all (· ≤ reachBytes) = true := hsz0
  clear hsz0
  have hT := tab_of_laid hL
  have hval : ∀ (j : Nat) t v, Tryd.f4.params[j]? = some t → args[j]? = some v → Value.okWide Tryd.prog W .any base t v := hval0
  have hW' := hW
  obtain ⟨p, q, hA0, hV, rfl, hfz, hnd⟩ := hW
  have hA : DataW.TrodAll enc Tryd.prog W 0 (fun _ => true) true Tryd.f4.params.toList args.toList ds p := hA0
  rw [Tryd.params4] at hA hval hsz
  obtain ⟨v0, vs0, d0, ds0, p0, q0, hargs, rfl, rfl, h0, r0⟩ := trodAll_cons hA
  obtain ⟨v1, vs1, d1, ds1, p1, q1, rfl, rfl, rfl, h1, r1⟩ := trodAll_cons r0
  obtain ⟨v2, vs2, d2, ds2, p2, q2, rfl, rfl, rfl, h2, r2⟩ := trodAll_cons r1
  obtain ⟨rfl, rfl, rfl⟩ := trodAll_nil r2
  obtain rfl : args = #[v0, v1, v2] := by cases args; simp_all
  obtain ⟨rfl, rfl⟩ := trodVars_none hV
  obtain ⟨a0, len0, cap0, rfl⟩ := okWide_slice Tryd.underlying22 (hval 0 22 v0 rfl rfl)
  have k0 := h0
  have lt0 : ∀ x ∈ p0, x.block < W.heap.size := by obtain ⟨m, hm⟩ := k0; exact DataW.trod_lt m _ _ _ hm
  obtain ⟨xs0, hx0, hy0, hl0, hcap0⟩ := open8 h0 (fun elems spare e => by subst e; exact sized_slice hsz (j := 0) (t := 22) (e := 5) rfl rfl Tryd.underlying22)
  obtain ⟨a1, rfl, rfl, rfl, w1⟩ := open_int Tryd.underlying3 (hval 1 3 v1 rfl rfl) h1
  obtain ⟨a2, rfl, rfl, rfl, w2⟩ := open_int Tryd.underlying25 (hval 2 25 v2 rfl rfl) h2
  clear hA0 hval0
  refine (walk a0 len0 cap0 xs0 a1 w1 a2 w2 W hT hx0 hy0 (by omega)).mono fun e W' ⟨he, hCC⟩ => ?_
  subst he
  have bel := below_of hCC
  exact ⟨_, rfl, _, _, _, [], _, [], hW', trodAll_mk1 (shut_bool Tryd.underlying4 _), (trodAll_cons_mk (Below.trod laidOut (by kernel_rfl) (of_decide_eq_true (by kernel_rfl)) k0 bel lt0) (trodAll_cons_mk (shut_int Tryd.underlying3 w1) (trodAll_cons_mk (shut_int Tryd.underlying25 w2) trodAll_mk0))), rfl, bel.frame _, fun h => by cases h⟩

theorem over : Rows.CrcBurstsSaid :=
  OpenClaim.holds_of_wide 4 Tryd.f4 rfl rfl rfl rfl rfl rfl rfl ⟨rfl, rfl, rfl, rfl, rfl⟩ rfl rfl rfl rfl rfl (by kernel_rfl) Tryd.func4 (by kernel_rfl)
    (of_decide_eq_true (by kernel_rfl)) (by unfold Func.isWrapper; first | (rw [if_pos (by decide +kernel)]; kernel_rfl) | (rw [if_neg (by decide +kernel)]; exact ⟨rfl, rfl⟩))
    (fun os started H enc _ => lifted os started H enc)

theorem card : Rows.CrcBurstsCardSaid :=
  Claim7.holds_tied_plain_at .later [] [.data, .data] true (true, "ca69a7d00fe7128775994628562602c8ac7e0bcdb440e5576c22203d2800d4d2") false
    over (fun _ h => by cases h) (by kernel_rfl) (fun _ h => by cases h) crcBursts_row_tie rfl ⟨rfl, rfl⟩ (by kernel_rfl) rfl
    (fun f fn hf hfn => by
      obtain rfl : f = 4 := Option.some.inj ((show Tryd.prog.funcNamed "pith/pithlaw03.CrcBursts" = some 4 by kernel_rfl).symm.trans hf) |>.symm
      obtain rfl : fn = Tryd.f4 := (Option.some.inj (Tryd.func4.symm.trans hfn)).symm
      exact ⟨by kernel_rfl, fun j t ht => by
        rw [Tryd.params4] at ht
        have hm : t ∈ [22, 3, 25] := by simpa using Array.mem_of_getElem? ht
        have hall : ([22, 3, 25].all fun u => !Tryd.prog.wantsStandIn u) = true := by kernel_rfl
        exact (show Tryd.prog.wantsStandIn t = false by simpa using List.all_eq_true.1 hall t hm)⟩)
    (by kernel_rfl)
end Go.Proofs.YtmgjbkgooekihaaDoor.crcBursts
namespace Go.Proofs.YtmgjbkgooekihaaDoor
theorem crcBursts_holds : Rows.CrcBurstsCardSaid := crcBursts.card
#print axioms crcBursts_holds
end Go.Proofs.YtmgjbkgooekihaaDoor
