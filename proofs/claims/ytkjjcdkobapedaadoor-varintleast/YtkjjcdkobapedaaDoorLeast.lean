/- VarintLeast holds: for every two numbers handed to the statement's function the call returns true and the arguments read afterwards as they did; the table of bounds is as the program's text lays it. -/
import Derived.Test.YtkjjcdkobapedaaDoorStr
import Derived.Test.YtkjjcdkobapedaaDoorCards
import Derived.Test.YtkjjcdkobapedaaDoorTie
import Derived.SevenTiedAt
namespace Go.Proofs.YtkjjcdkobapedaaDoor.varintLeast
open Go.ChangeShapes Go.WideShapes Go.ChangeAt Go.RowKit
set_option linter.unusedVariables false

theorem sz_mono {x y : Int} (hx : x ≤ 9223372036854775807) (hy : y ≤ 9223372036854775807) (h : x ≤ y) : sz x ≤ sz y := by
  have a := sz_pow hx
  have b := sz_pow hy
  by_cases e : sz x ≤ sz y
  · exact e
  · have := a.2.1 (by omega)
    have := pow_mono (show sz y ≤ sz x - 1 by omega)
    omega

theorem and127_u8 {y : Int} (h0 : 0 ≤ y) (h1 : y ≤ 255) : bits .and .u8 y 127 = y % 128 := by
  rw [u8_and y 127 h0 (by omega) (by omega) (by omega)]
  have e : (127 : Int).toNat = 2 ^ 7 - 1 := rfl
  rw [e, Nat.and_two_pow_sub_one_eq_mod]
  omega

theorem and127_u64 {y : Int} (h0 : 0 ≤ y) (h1 : y ≤ 9223372036854775807) : bits .and .u64 y 127 = y % 128 := by
  rw [u64_and y 127 h0 (by omega) (by omega) (by omega)]
  have e : (127 : Int).toNat = 2 ^ 7 - 1 := rfl
  rw [e, Nat.and_two_pow_sub_one_eq_mod]
  omega

theorem two7 (k : Nat) : (2 : Int) ^ (7 * k) = 128 ^ k := by rw [Int.pow_mul]; rfl

theorem shift_bd {x : Int} (hx0 : 0 ≤ x) (hx1 : x ≤ 9223372036854775807) (k : Nat) : 0 ≤ x / 2 ^ (7 * k) ∧ x / 2 ^ (7 * k) ≤ 9223372036854775807 :=
  ⟨Int.ediv_nonneg hx0 (Int.pow_nonneg (by omega)), Int.le_trans (Int.ediv_le_self _ hx0) hx1⟩

theorem group_u64 {x : Int} (hx0 : 0 ≤ x) (hx1 : x ≤ 9223372036854775807) (k : Nat) : bits .and .u64 (x / 2 ^ (7 * k)) 127 = dg x k := by
  obtain ⟨a, b⟩ := shift_bd hx0 hx1 k
  rw [and127_u64 a b, two7]
  rfl

set_option maxHeartbeats 1000000 in
theorem walk_le (a b x y : Int) (n n2 : Nat) (hv : bits .and .u64 a 9223372036854775807 = x) (hu : bits .and .u64 b 9223372036854775807 = y) (hx0 : 0 ≤ x) (hx1 : x ≤ 9223372036854775807) (hy0 : 0 ≤ y) (hy1 : y ≤ 9223372036854775807)
    (hxy : x ≤ y) (hn1 : Hid (sz x = n)) (hn2 : Hid (sz y = n2)) (hle : n ≤ n2) (l1 : 1 ≤ n) (l9 : n2 ≤ 9) (w : World) (hT : Tab w) :
    Calls Tryd.prog 3 #[.int .u64 a, .int .u64 b] w fun e w' => e = .returned (.bool true) ∧ Below w.heap.size w w' := by
  go_enter Tryd.func3, Tryd.ntmps3
  go_wp2_with fail
  refine (size_any _ _ hT hx0 hx1).mono ?_
  rintro e w1 ⟨rfl, rfl⟩
  rw [hn1.out]
  go_wp2_with fail
  refine (put_any _ _ hT hx0 hx1).mono ?_
  rintro e w1 ⟨rfl, hb1, hc1⟩
  have hT1 := hT.new hc1
  have hs1 : w.heap.size < w1.heap.size := lt_of_blk hb1
  rw [hn1.out]
  clear hT
  go_wp2_with fail
  refine (num_any _ _).mono ?_
  rintro e w3 ⟨rfl, rfl⟩
  go_wp2_with fail
  refine (size_any _ _ hT1 hy0 hy1).mono ?_
  rintro e w2 ⟨rfl, rfl⟩
  rw [hn2.out]
  obtain ⟨p1, p2, -, -⟩ := sz_pow hx1
  rw [hn1.out] at p1 p2
  have hz : x / 2 ^ (7 * n) = 0 := by rw [two7]; exact Int.ediv_eq_zero_of_lt hx0 p1
  have hcell : ∀ k, k < n → w1.cell? ⟨w.heap.size, k, none⟩ = some (.int .u8 (if k + 1 < n then dg x k + 128 else dg x k)) := fun k hk => by
    rw [cell_of_row w1 w.heap.size k _ 5 (0, 0) hb1]
    have := vb_get (v := x) (i := k) (by rw [hn1.out]; exact hk)
    simp [cells8, this, hn1.out]
  have HC : Hid (∀ k, k < n → w1.cell? ⟨w.heap.size, k, none⟩ = some (.int .u8 (if k + 1 < n then dg x k + 128 else dg x k))) := hcell
  have HF : Hid (∀ k, bits .and .u64 (x / 2 ^ (7 * k)) 127 = dg x k) := fun k => group_u64 hx0 hx1 k
  have HH : Hid (1 < n → (x / 2 ^ (7 * (n - 1)) == 0) = false) := fun h => by
    refine beq_eq_false_iff_ne.2 (fun e => ?_)
    have := p2 h
    have hp : (0 : Int) < 128 ^ (n - 1) := Int.pow_pos (by omega)
    rw [two7] at e
    have h2 := Int.ediv_le_ediv hp this
    rw [Int.ediv_self (by omega)] at h2
    omega
  clear hcell p1 p2 hb1 hT1
  by_cases h1n : 1 < n
  all_goals
    by_cases h9n : n < 9
    all_goals try (exfalso; omega)
    all_goals
     first | have hh := HH.out h1n | skip
     go_wp2_with fail
     go_loopw [8] (fun i wr => ∃ k : Nat, k ≤ n ∧ i = .int .i64 k ∧ ∃ q, wr = w1.drewN q) (fun i _ => n - (intOf i).toNat)
     case atStart => exact ⟨0, Nat.zero_le _, rfl, 0, rfl⟩
     case round =>
      obtain ⟨k, hk, rfl, q, rfl⟩ := hrel
      by_cases hlt : k < n
      · have hc := HC.out k hlt
        have hf := HF.out k
        obtain ⟨d0, d1⟩ := dg_bd x k
        by_cases hkn : k + 1 < n
        · rw [if_pos hkn] at hc
          have hg : bits .and .u8 (dg x k + 128) 127 = dg x k := by rw [and127_u8 (by omega) (by omega)]; omega
          generalize dg x k = d at *
          have hd1 : decide (128 ≤ d + 128) = true := by simp; omega
          have hd2 : decide ((k : Int) < (n : Int) - 1) = true := by simp; omega
          go_wp2_with fail
          go_quiet (fail)
          go_wp2
          go_roundw
          case rel => exact ⟨k + 1, by omega, by go_num, _, rfl⟩
          case measure => simp [intOf]; omega
        · rw [if_neg hkn] at hc
          have hg : bits .and .u8 (dg x k) 127 = dg x k := by rw [and127_u8 (by omega) (by omega)]; omega
          generalize dg x k = d at *
          have hd1 : decide (128 ≤ d) = false := by simp; omega
          have hd2 : decide ((k : Int) < (n : Int) - 1) = false := by simp; omega
          go_wp2_with fail
          go_quiet (fail)
          go_wp2
          go_roundw
          case rel => exact ⟨k + 1, by omega, by go_num, _, rfl⟩
          case measure => simp [intOf]; omega
      · obtain rfl : k = n := by omega
        go_wp2
        go_ret
        exact ⟨rfl, (hc1.trans (chg_drewN (S := fun _ => False) w1 q) (fun _ f => f.elim)).below (Nat.le_refl _) (fun _ f => f.elim)⟩

set_option maxHeartbeats 1000000 in
theorem walk_gt (a b x y : Int) (n n2 : Nat) (hv : bits .and .u64 b 9223372036854775807 = x) (hu : bits .and .u64 a 9223372036854775807 = y) (hx0 : 0 ≤ x) (hx1 : x ≤ 9223372036854775807) (hy0 : 0 ≤ y) (hy1 : y ≤ 9223372036854775807)
    (hxy : x < y) (hn1 : Hid (sz x = n)) (hn2 : Hid (sz y = n2)) (hle : n ≤ n2) (l1 : 1 ≤ n) (l9 : n2 ≤ 9) (w : World) (hT : Tab w) :
    Calls Tryd.prog 3 #[.int .u64 a, .int .u64 b] w fun e w' => e = .returned (.bool true) ∧ Below w.heap.size w w' := by
  go_enter Tryd.func3, Tryd.ntmps3
  go_wp2_with fail
  refine (size_any _ _ hT hx0 hx1).mono ?_
  rintro e w1 ⟨rfl, rfl⟩
  rw [hn1.out]
  go_wp2_with fail
  refine (put_any _ _ hT hx0 hx1).mono ?_
  rintro e w1 ⟨rfl, hb1, hc1⟩
  have hT1 := hT.new hc1
  have hs1 : w.heap.size < w1.heap.size := lt_of_blk hb1
  rw [hn1.out]
  clear hT
  go_wp2_with fail
  refine (num_any _ _).mono ?_
  rintro e w3 ⟨rfl, rfl⟩
  go_wp2_with fail
  refine (size_any _ _ hT1 hy0 hy1).mono ?_
  rintro e w2 ⟨rfl, rfl⟩
  rw [hn2.out]
  obtain ⟨p1, p2, -, -⟩ := sz_pow hx1
  rw [hn1.out] at p1 p2
  have hz : x / 2 ^ (7 * n) = 0 := by rw [two7]; exact Int.ediv_eq_zero_of_lt hx0 p1
  have hcell : ∀ k, k < n → w1.cell? ⟨w.heap.size, k, none⟩ = some (.int .u8 (if k + 1 < n then dg x k + 128 else dg x k)) := fun k hk => by
    rw [cell_of_row w1 w.heap.size k _ 5 (0, 0) hb1]
    have := vb_get (v := x) (i := k) (by rw [hn1.out]; exact hk)
    simp [cells8, this, hn1.out]
  have HC : Hid (∀ k, k < n → w1.cell? ⟨w.heap.size, k, none⟩ = some (.int .u8 (if k + 1 < n then dg x k + 128 else dg x k))) := hcell
  have HF : Hid (∀ k, bits .and .u64 (x / 2 ^ (7 * k)) 127 = dg x k) := fun k => group_u64 hx0 hx1 k
  have HH : Hid (1 < n → (x / 2 ^ (7 * (n - 1)) == 0) = false) := fun h => by
    refine beq_eq_false_iff_ne.2 (fun e => ?_)
    have := p2 h
    have hp : (0 : Int) < 128 ^ (n - 1) := Int.pow_pos (by omega)
    rw [two7] at e
    have h2 := Int.ediv_le_ediv hp this
    rw [Int.ediv_self (by omega)] at h2
    omega
  clear hcell p1 p2 hb1 hT1
  by_cases h1n : 1 < n
  all_goals
    by_cases h9n : n < 9
    all_goals try (exfalso; omega)
    all_goals
     first | have hh := HH.out h1n | skip
     go_wp2_with fail
     go_loopw [8] (fun i wr => ∃ k : Nat, k ≤ n ∧ i = .int .i64 k ∧ ∃ q, wr = w1.drewN q) (fun i _ => n - (intOf i).toNat)
     case atStart => exact ⟨0, Nat.zero_le _, rfl, 0, rfl⟩
     case round =>
      obtain ⟨k, hk, rfl, q, rfl⟩ := hrel
      by_cases hlt : k < n
      · have hc := HC.out k hlt
        have hf := HF.out k
        obtain ⟨d0, d1⟩ := dg_bd x k
        by_cases hkn : k + 1 < n
        · rw [if_pos hkn] at hc
          have hg : bits .and .u8 (dg x k + 128) 127 = dg x k := by rw [and127_u8 (by omega) (by omega)]; omega
          generalize dg x k = d at *
          have hd1 : decide (128 ≤ d + 128) = true := by simp; omega
          have hd2 : decide ((k : Int) < (n : Int) - 1) = true := by simp; omega
          go_wp2_with fail
          go_quiet (fail)
          go_wp2
          go_roundw
          case rel => exact ⟨k + 1, by omega, by go_num, _, rfl⟩
          case measure => simp [intOf]; omega
        · rw [if_neg hkn] at hc
          have hg : bits .and .u8 (dg x k) 127 = dg x k := by rw [and127_u8 (by omega) (by omega)]; omega
          generalize dg x k = d at *
          have hd1 : decide (128 ≤ d) = false := by simp; omega
          have hd2 : decide ((k : Int) < (n : Int) - 1) = false := by simp; omega
          go_wp2_with fail
          go_quiet (fail)
          go_wp2
          go_roundw
          case rel => exact ⟨k + 1, by omega, by go_num, _, rfl⟩
          case measure => simp [intOf]; omega
      · obtain rfl : k = n := by omega
        go_wp2
        go_ret
        exact ⟨rfl, (hc1.trans (chg_drewN (S := fun _ => False) w1 q) (fun _ f => f.elim)).below (Nat.le_refl _) (fun _ f => f.elim)⟩

theorem walk (a b : Int) (w0 : (Lit.int .u64 a).wf = true) (w1 : (Lit.int .u64 b).wf = true) (w : World) (hT : Tab w) :
    Calls Tryd.prog 3 #[.int .u64 a, .int .u64 b] w fun e w' => e = .returned (.bool true) ∧ Below w.heap.size w w' := by
  have m1 := mask_bd w0
  have m2 := mask_bd w1
  have s1 := sz_pow m1.2
  have s2 := sz_pow m2.2
  by_cases hle : bits .and .u64 a 9223372036854775807 ≤ bits .and .u64 b 9223372036854775807
  · exact walk_le a b _ _ _ _ rfl rfl m1.1 m1.2 m2.1 m2.2 hle rfl rfl (sz_mono m1.2 m2.2 hle) s1.2.2.1 s2.2.2.2 w hT
  · exact walk_gt a b _ _ _ _ rfl rfl m2.1 m2.2 m1.1 m1.2 (by omega) rfl rfl (sz_mono m2.2 m1.2 (by omega)) s2.2.2.1 s1.2.2.2 w hT

set_option maxRecDepth 100000 in
theorem lifted (os : Os) (started : os.Started) (H : Type) (enc : TypeId × Value → H) :
    ReturnsInHanded {} Tryd.checked os 3 .any (fun w args => (Rows.varintLeastSpec.pre enc Tryd.prog Tryd.f3 [] false w args ∧ laidMetH Tryd.prog [("pith/varint.bounds", Rows.laid_pith_varint_bounds)] w) ∧ sizedMet enc Tryd.prog Tryd.f3 (OpenSpec.ofChange Rows.varintLeastSpec) false w args)
      (Rows.varintLeastSpec.post enc Tryd.prog Tryd.f3 false true false false) := by
  refine returnsInHanded_of_change_and (C := Tryd.checked) (X := fun w _ => laidMetH Tryd.prog [("pith/varint.bounds", Rows.laid_pith_varint_bounds)] w) (fun _ _ _ hh h => h.of_heap hh) own started (by kernel_rfl) Tryd.func3
    (ChangeSpec.witness_shaped (enc := enc) (C := Tryd.checked) (os := os) (X := fun w _ => laidMetH Tryd.prog [("pith/varint.bounds", Rows.laid_pith_varint_bounds)] w) false (World.doorLaid Tryd.prog 400 os) #[.int .u64 0, .int .u64 0] 8 rfl (World.shaped_of_RefB (by kernel_rfl) (by kernel_rfl)) (by kernel_rfl) (by kernel_rfl) (by kernel_rfl) (door_met os _)) ?_
  intro W base args ds gs before hval0 hW _ hsz0 hL _
  have hsz : (DataW.weightsEach Tryd.prog (Tryd.f3.params.toList ++ Rows.varintLeastSpec.plain.varTypes Tryd.prog) (ds ++ gs)).all (· ≤ reachBytes) = true := hsz0
  clear hsz0
  have hT := tab_of_laid hL
  have hval : ∀ (j : Nat) t v, Tryd.f3.params[j]? = some t → args[j]? = some v → Value.okWide Tryd.prog W .any base t v := hval0
  have hW' := hW
  obtain ⟨p, q, hA0, hV, rfl, hfz, hnd⟩ := hW
  have hA : DataW.TrodAll enc Tryd.prog W 0 (fun _ => true) true Tryd.f3.params.toList args.toList ds p := hA0
  rw [Tryd.params3] at hA hval hsz
  obtain ⟨v0, vs0, d0, ds0, p0, q0, hargs, rfl, rfl, h0, r0⟩ := trodAll_cons hA
  obtain ⟨v1, vs1, d1, ds1, p1, q1, rfl, rfl, rfl, h1, r1⟩ := trodAll_cons r0
  obtain ⟨rfl, rfl, rfl⟩ := trodAll_nil r1
  obtain rfl : args = #[v0, v1] := by cases args; simp_all
  obtain ⟨rfl, rfl⟩ := trodVars_none hV
  obtain ⟨a0, rfl, rfl, rfl, w0⟩ := open_int Tryd.underlying22 (hval 0 22 v0 rfl rfl) h0
  obtain ⟨a1, rfl, rfl, rfl, w1⟩ := open_int Tryd.underlying22 (hval 1 22 v1 rfl rfl) h1
  clear hA0 hval0
  simp only [List.append_nil] at hW'
  refine (walk a0 a1 w0 w1 W hT).mono fun e W' ⟨he, bel⟩ => ?_
  subst he
  exact ⟨_, rfl, _, _, _, [], _, [], hW', trodAll_mk1 (shut_bool Tryd.underlying4 _), (trodAll_cons_mk (shut_int Tryd.underlying22 w0) (trodAll_cons_mk (shut_int Tryd.underlying22 w1) trodAll_mk0)), rfl, bel.frame _, fun h => by cases h⟩

theorem over : Rows.VarintLeastSaid :=
  OpenClaim.holds_of_wide 3 Tryd.f3 rfl rfl rfl rfl rfl rfl rfl ⟨rfl, rfl, rfl, rfl, rfl⟩ rfl rfl rfl rfl rfl (by kernel_rfl) Tryd.func3 (by kernel_rfl)
    (of_decide_eq_true (by kernel_rfl)) (by unfold Func.isWrapper; first | (rw [if_pos (by decide +kernel)]; kernel_rfl) | (rw [if_neg (by decide +kernel)]; exact ⟨rfl, rfl⟩))
    (fun os started H enc _ => lifted os started H enc)

theorem card : Rows.VarintLeastCardSaid :=
  Claim7.holds_tied_plain_at .later [] [.data] true (true, "9eaca55c46c199496ff09bc0497ecf8d869f991bd74fb21b856a185c3ef4797a") false
    over (fun _ h => by cases h) (by kernel_rfl) (fun _ h => by cases h) varintLeast_row_tie rfl ⟨rfl, rfl⟩ (by kernel_rfl) rfl
    (fun f fn hf hfn => by
      obtain rfl : f = 3 := Option.some.inj ((show Tryd.prog.funcNamed "pith/pithlaw02.VarintLeast" = some 3 by kernel_rfl).symm.trans hf) |>.symm
      obtain rfl : fn = Tryd.f3 := (Option.some.inj (Tryd.func3.symm.trans hfn)).symm
      exact ⟨by kernel_rfl, fun j t ht => by
        rw [Tryd.params3] at ht
        have hm : t ∈ [22, 22] := by simpa using Array.mem_of_getElem? ht
        have hall : ([22, 22].all fun u => !Tryd.prog.wantsStandIn u) = true := by kernel_rfl
        exact (show Tryd.prog.wantsStandIn t = false by simpa using List.all_eq_true.1 hall t hm)⟩)
    (by kernel_rfl)
end Go.Proofs.YtkjjcdkobapedaaDoor.varintLeast
namespace Go.Proofs.YtkjjcdkobapedaaDoor
theorem varintLeast_holds : Rows.VarintLeastCardSaid := varintLeast.card
#print axioms varintLeast_holds
end Go.Proofs.YtkjjcdkobapedaaDoor
