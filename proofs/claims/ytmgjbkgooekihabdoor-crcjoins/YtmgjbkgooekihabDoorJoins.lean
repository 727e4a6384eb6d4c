/- CrcJoins holds: for every two numbers and every length handed to the statement's function the call returns true and the arguments read afterwards as they did; the two tables are as the program's text lays them. -/
import Derived.Test.YtmgjbkgooekihabDoorStr
import Derived.Test.YtmgjbkgooekihabDoorRefZ
import Derived.Test.YtmgjbkgooekihabDoorCards
import Derived.Test.YtmgjbkgooekihabDoorTie
import Derived.SevenTiedAt
namespace Go.Proofs.YtmgjbkgooekihabDoor.crcJoins
open Go.ChangeShapes Go.WideShapes Go.ChangeAt Go.RowKit
set_option linter.unusedVariables false

theorem low32 (a : Nat) (ha : a < 18446744073709551616) : bits .and .u64 (a : Int) 4294967295 = ((a % 4294967296 : Nat) : Int) := by
  rw [show (4294967295 : Int) = ((4294967295 : Nat) : Int) from rfl, u64_and_nat a 4294967295 ha (by decide)]
  congr 1
  exact Nat.and_two_pow_sub_one_eq_mod a 32

theorem wrap32 (a : Nat) : IntKind.u32.wrap (a : Int) = ((a % 4294967296 : Nat) : Int) := by
  have : IntKind.u32.wrap (a : Int) = (a : Int) % 4294967296 := by simp [IntKind.wrap, IntKind.signed, IntKind.bits]
  rw [this]
  omega

set_option maxHeartbeats 4000000 in
theorem walk_yes (A B n : Nat) (w0 : World) (T0 : Tab w0) (hA : A < 18446744073709551616) (hB : B < 18446744073709551616) (hn : n ≤ 1099511627776) :
    Calls Tryd.prog 3 #[.agg #[.int .u64 A, .int .u64 B], .int .i64 n] w0 fun e w' => e = .returned (.bool true) ∧ Chg (fun _ => False) w0 w' := by
  have c0 := chg_one w0 (.cells #[.int .u64 (A : Int), .int .u64 (B : Int)] 24)
  have q0 : (w0.alloc (.cells #[.int .u64 (A : Int), .int .u64 (B : Int)] 24)).heap[w0.heap.size]? = some (.cells #[.int .u64 (A : Int), .int .u64 (B : Int)] 24 (0, 0)) := heap_alloc_last _ _
  have e1 := low32 A hA
  have e2 := low32 B hB
  have e3 := wrap32 A
  have e4 := wrap32 B
  have a1 : A % 4294967296 < 4294967296 := Nat.mod_lt _ (by decide)
  have a2 : B % 4294967296 < 4294967296 := Nat.mod_lt _ (by decide)
  generalize A % 4294967296 = a at *
  generalize B % 4294967296 = b at *
  have hz := Nat.xor_lt_two_pow (n := 32) (Crc.itr_lt (w := 32) Crc.p32_lt (8 * n) a1) a2
  go_enter Tryd.func3, Tryd.ntmps3
  go_wp2_with fail
  have hT := T0.new c0
  refine (join32_yes a b n _ hT a1 a2 hn).mono ?_
  rintro e w1 ⟨rfl, c1⟩
  have hT1 := hT.new c1
  have q1 := blk_keep q0 c1 (fun f => f)
  have C1 := chg_then c0 c1
  have f0 := cell0 q1
  have f1 := cell1 q1
  clear hT c0 c1 q0 T0
  generalize g32 : Crc.itr Crc.P32 (8 * n) a ^^^ b = z32 at *
  have H32 : Hid (Crc.itr Crc.P32 (8 * n) a ^^^ b = z32) := g32
  clear g32
  go_wp2_with fail
  refine (refjoin32_yes a b n _ a1 a2 hn).mono ?_
  rintro e w2 ⟨rfl, rfl⟩
  rw [H32.out]
  go_wp2_with fail
  refine (join64_yes A B n _ hT1 hA hB hn).mono ?_
  rintro e w2 ⟨rfl, c2⟩
  have hT2 := hT1.new c2
  have q2 := blk_keep q1 c2 (fun f => f)
  have C2 := chg_then C1 c2
  clear f0 f1 q1 hT1 c2 C1
  have f0 := cell0 q2
  have f1 := cell1 q2
  generalize g64 : Crc.itr Crc.P64 (8 * n) A ^^^ B = z64 at *
  have H64 : Hid (Crc.itr Crc.P64 (8 * n) A ^^^ B = z64) := g64
  clear g64
  go_wp2_with fail
  refine (refjoin64_yes A B n _ hA hB hn).mono ?_
  rintro e w3 ⟨rfl, rfl⟩
  rw [H64.out]
  clear f0 f1 q2
  go_wp2_with fail
  refine (fixed_any _ hT2).mono ?_
  rintro e w3 ⟨rfl, c3⟩
  go_wp2
  go_ret
  exact ⟨rfl, chg_then C2 c3⟩

set_option maxHeartbeats 4000000 in
theorem walk_no (A B : Nat) (n : Int) (w0 : World) (T0 : Tab w0) (hA : A < 18446744073709551616) (hB : B < 18446744073709551616) (hn : n < 0 ∨ 1099511627776 < n) :
    Calls Tryd.prog 3 #[.agg #[.int .u64 A, .int .u64 B], .int .i64 n] w0 fun e w' => e = .returned (.bool true) ∧ Chg (fun _ => False) w0 w' := by
  have c0 := chg_one w0 (.cells #[.int .u64 (A : Int), .int .u64 (B : Int)] 24)
  have e1 := low32 A hA
  have e2 := low32 B hB
  have e3 := wrap32 A
  have e4 := wrap32 B
  generalize A % 4294967296 = a at *
  generalize B % 4294967296 = b at *
  have hT := T0.new c0
  clear T0
  have HN : Hid (n < 0 ∨ 1099511627776 < n) := hn
  clear hn
  go_enter Tryd.func3, Tryd.ntmps3
  go_wp2_with fail
  refine (join32_no a b n _ HN.out).mono ?_
  rintro e w2 ⟨rfl, rfl⟩
  go_wp2_with fail
  refine (refjoin32_no a b n _ HN.out).mono ?_
  rintro e w2 ⟨rfl, rfl⟩
  go_wp2_with fail
  refine (join64_no A B n _ HN.out).mono ?_
  rintro e w2 ⟨rfl, rfl⟩
  go_wp2_with fail
  refine (refjoin64_no A B n _ HN.out).mono ?_
  rintro e w2 ⟨rfl, rfl⟩
  go_wp2_with fail
  refine (fixed_any _ hT).mono ?_
  rintro e w3 ⟨rfl, c3⟩
  go_wp2
  go_ret
  exact ⟨rfl, chg_then c0 c3⟩

theorem walk (A B n : Int) (wA : (Lit.int .u64 A).wf = true) (wB : (Lit.int .u64 B).wf = true) (wn : (Lit.int .i64 n).wf = true) (w0 : World) (T0 : Tab w0) :
    Calls Tryd.prog 3 #[.agg #[.int .u64 A, .int .u64 B], .int .i64 n] w0 fun e w' => e = .returned (.bool true) ∧ Chg (fun _ => False) w0 w' := by
  obtain ⟨x0, x1⟩ := bounds_u64 wA
  obtain ⟨y0, y1⟩ := bounds_u64 wB
  obtain ⟨a, rfl⟩ : ∃ a : Nat, A = a := ⟨A.toNat, by omega⟩
  obtain ⟨b, rfl⟩ : ∃ b : Nat, B = b := ⟨B.toNat, by omega⟩
  by_cases h : n < 0 ∨ 1099511627776 < n
  · exact walk_no a b n w0 T0 (by omega) (by omega) h
  · obtain ⟨m, rfl⟩ : ∃ m : Nat, n = m := ⟨n.toNat, by omega⟩
    exact walk_yes a b m w0 T0 (by omega) (by omega) (by omega)

theorem cellsT : Tryd.prog.cellsOf 24 = 2 := by kernel_rfl
theorem cellsU : Tryd.prog.cellsOf 22 = 1 := by kernel_rfl

/-- The argument, opened: two numbers. -/
theorem open_two {H : Type} {enc : TypeId × Value → H} {W : World} {base : Nat} {v : Value} {d : DataW H} {p : List MemPlace} (hv : Value.okWide Tryd.prog W .any base 24 v)
    (h : DataW.Trod enc Tryd.prog W 0 (fun _ => true) true 24 v d p) :
    ∃ A B, v = .agg #[.int .u64 A, .int .u64 B] ∧ (Lit.int .u64 A).wf = true ∧ (Lit.int .u64 B).wf = true := by
  obtain ⟨cs, rfl, hsz⟩ := okWide_struct Tryd.underlying24 hv
  obtain ⟨fuel, hf⟩ := h
  have hf' : DataW.trod enc Tryd.prog W 0 (fun _ => true) true fuel 24 cs.toList = some (d, p) := hf
  obtain ⟨xs, n, _, hd, hl, hlen, hx⟩ := DataW.trod_struct Tryd.underlying24 hf'
  rw [cellsT] at hl
  obtain ⟨l⟩ := cs
  match l, hl with
  | [c0, c1], _ =>
    have hs : xs.length = 2 := by simpa using hlen
    match xs, hs with
    | [y0, y1], _ =>
      have h0 : DataW.trod enc Tryd.prog W 0 (fun _ => true) true n 22 [c0] = some y0 := by have := hx 0 _ rfl; simpa [cellsU] using this
      have h1 : DataW.trod enc Tryd.prog W 0 (fun _ => true) true n 22 [c1] = some y1 := by have := hx 1 _ rfl; simpa [cellsU] using this
      obtain ⟨A, e0, _, w0⟩ := DataW.trod_int Tryd.underlying22 h0
      obtain ⟨B, e1, _, w1⟩ := DataW.trod_int Tryd.underlying22 h1
      simp only [List.cons.injEq, and_true] at e0 e1
      subst e0 e1
      exact ⟨A, B, rfl, w0, w1⟩

set_option maxRecDepth 100000 in
theorem lifted (os : Os) (started : os.Started) (H : Type) (enc : TypeId × Value → H) :
    ReturnsInHanded {} Tryd.checked os 3 .any (fun w args => (Rows.crcJoinsSpec.pre enc Tryd.prog Tryd.f3 [] false w args ∧ laidMetH Tryd.prog [("pith/crc.half32", Rows.laid_pith_crc_half32), ("pith/crc.half64", Rows.laid_pith_crc_half64)] w) ∧ sizedMet enc Tryd.prog Tryd.f3 (OpenSpec.ofChange Rows.crcJoinsSpec) false w args)
      (Rows.crcJoinsSpec.post enc Tryd.prog Tryd.f3 false true false false) := by
  refine returnsInHanded_of_change_and (C := Tryd.checked) (X := fun w _ => laidMetH Tryd.prog [("pith/crc.half32", Rows.laid_pith_crc_half32), ("pith/crc.half64", Rows.laid_pith_crc_half64)] w) (fun _ _ _ hh h => h.of_heap hh) own started (by kernel_rfl) Tryd.func3
    (ChangeSpec.witness_shaped (enc := enc) (C := Tryd.checked) (os := os) (X := fun w _ => laidMetH Tryd.prog [("pith/crc.half32", Rows.laid_pith_crc_half32), ("pith/crc.half64", Rows.laid_pith_crc_half64)] w) false (World.doorLaid Tryd.prog 400 os) #[.agg #[.int .u64 0, .int .u64 0], .int .i64 0] 8 rfl (World.shaped_of_RefB (by kernel_rfl) (by kernel_rfl)) (by kernel_rfl) (by kernel_rfl) (by kernel_rfl) (door_met os _)) ?_
  intro W base args ds gs before hval0 hW _ hsz0 hL _
  have hsz : (DataW.weightsEach Tryd.prog (Tryd.f3.params.toList ++ Rows.crcJoinsSpec.plain.varTypes Tryd.prog) (ds ++ gs)).all (· ≤ reachBytes) = true := hsz0
  clear hsz0
  have hT := tab_of_laid hL
  have hval : ∀ (j : Nat) t v, Tryd.f3.params[j]? = some t → args[j]? = some v → Value.okWide Tryd.prog W .any base t v := hval0
  have hW' := hW
  obtain ⟨p, q, hA0, hV, rfl, hfz, hnd⟩ := hW
  have hA : DataW.TrodAll enc Tryd.prog W 0 (fun _ => true) true Tryd.f3.params.toList args.toList ds p := hA0
  rw [Tryd.params3] at hA hval hsz
  obtain ⟨v0, vs0, d0, ds0, p0, q0, hargs, rfl, rfl, h0, r0⟩ := trodAll_cons hA
  obtain ⟨v1, vs1, d1, ds1, p1, q1, rfl, rfl, rfl, h1, r1⟩ := trodAll_cons r0
  obtain ⟨rfl, rfl, rfl⟩ := trodAll_nil r1
  obtain rfl : args = #[v0, v1] := by cases args; simp_all
  obtain ⟨rfl, rfl⟩ := trodVars_none hV
  have k0 := h0
  have lt0 : ∀ x ∈ p0, x.block < W.heap.size := by obtain ⟨m, hm⟩ := k0; exact DataW.trod_lt m _ _ _ hm
  obtain ⟨A, B, rfl, wA, wB⟩ := open_two (hval 0 24 v0 rfl rfl) h0
  obtain ⟨a1, rfl, rfl, rfl, w1⟩ := open_int Tryd.underlying3 (hval 1 3 v1 rfl rfl) h1
  clear hA0 hval0
  refine (walk A B a1 wA wB w1 W hT).mono fun e W' ⟨he, hCC⟩ => ?_
  subst he
  have bel := below_of hCC
  exact ⟨_, rfl, _, _, _, [], _, [], hW', trodAll_mk1 (shut_bool Tryd.underlying4 _), (trodAll_cons_mk (Below.trod laidOut (by kernel_rfl) (of_decide_eq_true (by kernel_rfl)) k0 bel lt0) (trodAll_cons_mk (shut_int Tryd.underlying3 w1) trodAll_mk0)), rfl, bel.frame _, fun h => by cases h⟩

theorem over : Rows.CrcJoinsSaid :=
  OpenClaim.holds_of_wide 3 Tryd.f3 rfl rfl rfl rfl rfl rfl rfl ⟨rfl, rfl, rfl, rfl, rfl⟩ rfl rfl rfl rfl rfl (by kernel_rfl) Tryd.func3 (by kernel_rfl)
    (of_decide_eq_true (by kernel_rfl)) (by unfold Func.isWrapper; first | (rw [if_pos (by decide +kernel)]; kernel_rfl) | (rw [if_neg (by decide +kernel)]; exact ⟨rfl, rfl⟩))
    (fun os started H enc _ => lifted os started H enc)

theorem card : Rows.CrcJoinsCardSaid :=
  Claim7.holds_tied_plain_at .later [] [.data, .data] true (true, "4ff9c66c967b49fa1057ceb63d51399e117fd96427066ea1356f992a2200ad1e") false
    over (fun _ h => by cases h) (by kernel_rfl) (fun _ h => by cases h) crcJoins_row_tie rfl ⟨rfl, rfl⟩ (by kernel_rfl) rfl
    (fun f fn hf hfn => by
      obtain rfl : f = 3 := Option.some.inj ((show Tryd.prog.funcNamed "pith/pithlaw03.CrcJoins" = some 3 by kernel_rfl).symm.trans hf) |>.symm
      obtain rfl : fn = Tryd.f3 := (Option.some.inj (Tryd.func3.symm.trans hfn)).symm
      exact ⟨by kernel_rfl, fun j t ht => by
        rw [Tryd.params3] at ht
        have hm : t ∈ [24, 3] := by simpa using Array.mem_of_getElem? ht
        have hall : ([24, 3].all fun u => !Tryd.prog.wantsStandIn u) = true := by kernel_rfl
        exact (show Tryd.prog.wantsStandIn t = false by simpa using List.all_eq_true.1 hall t hm)⟩)
    (by kernel_rfl)
end Go.Proofs.YtmgjbkgooekihabDoor.crcJoins
namespace Go.Proofs.YtmgjbkgooekihabDoor
theorem crcJoins_holds : Rows.CrcJoinsCardSaid := crcJoins.card
#print axioms crcJoins_holds
end Go.Proofs.YtmgjbkgooekihabDoor
