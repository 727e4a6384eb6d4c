/- ShaPads holds: for every number handed to the statement's function the call returns true; the two tables are as the program's text lays them. -/
import Derived.Test.YtnedllhlmddmoaaDoorKnown
import Derived.Test.YtnedllhlmddmoaaDoorCards
import Derived.Test.YtnedllhlmddmoaaDoorTie
import Derived.SevenTiedAt
namespace Go.Proofs.YtnedllhlmddmoaaDoor.shaPads
open Go.ChangeShapes Go.WideShapes Go.ChangeAt Go.RowKit
set_option linter.unusedVariables false

theorem own_blk {w : World} {B g : Nat} {l : List Nat} (h : w.heap[g]? = some (.cells (byts l).toArray 5 (0, 0))) (hB : B ≤ g) (hl : l.length ≤ 140737488355328) : w.ownsRow B 5 1 (.slice (some ⟨g, 0, none⟩) l.length l.length) l.length (cells8 (up l)) := by
  refine ⟨by simp [cells8, up], .inr ⟨g, l.length, (byts l).toArray, rfl, hB, h, Nat.le_refl _, by unfold maxLen; omega, by simp [byts], ?_⟩⟩
  rw [show (byts l).toArray.toList = byts l from rfl, Nat.mul_one, List.take_of_length_le (by rw [byts_len]; exact Nat.le_refl _)]
  exact (up_byts l).symm

theorem pad_at (n j : Nat) (hj : j < Sha.padlen n) : (Sha.pad n).getD j 0 = if j = 0 then 128 else if Sha.padlen n - 8 ≤ j then 8 * n / 2 ^ (8 * (Sha.padlen n - 1 - j)) % 256 else 0 := by
  simp [Sha.pad, hj]

/-- The first k bytes written over with nines. -/
def nines (l : List Nat) (k : Nat) : List Nat := List.replicate k 9 ++ l.drop k
theorem nines_len (l : List Nat) (k : Nat) (h : k ≤ l.length) : (nines l k).length = l.length := by simp [nines]; omega
theorem nines_step (l : List Nat) (k : Nat) (h : k < l.length) : (nines l k).set k 9 = nines l (k + 1) := by
  unfold nines
  rw [List.set_append, if_neg (by simp), List.length_replicate, Nat.sub_self, List.drop_eq_getElem_cons h, List.set_cons_zero, List.replicate_succ', List.append_assoc]
  rfl
theorem nines_all (l : List Nat) : nines l l.length = List.replicate l.length 9 := by simp [nines]

set_option maxHeartbeats 8000000 in
set_option maxRecDepth 100000 in
theorem walk_neg (n : Int) (w : World) (hT : Tab w) (h0 : n < 0) : Calls Tryd.prog 5 #[.int .i64 n] w fun e w' => e = .returned (.bool true) ∧ Chg (fun _ => False) w w' := by
  go_enter Tryd.func5, Tryd.ntmps5
  go_wp2_with fail
  refine (lawknown_any w hT).mono ?_
  rintro e w1 ⟨rfl, c1⟩
  go_wp2_with fail
  refine (pad_neg n w1 h0).mono ?_
  rintro e w2 ⟨rfl, rfl⟩
  go_wp2
  go_ret
  exact ⟨rfl, c1⟩

set_option maxHeartbeats 8000000 in
set_option maxRecDepth 100000 in
theorem walk_nat (n : Nat) (w : World) (hT : Tab w) (hn : n < 9223372036854775808) : Calls Tryd.prog 5 #[.int .i64 n] w fun e w' => e = .returned (.bool true) ∧ Chg (fun _ => False) w w' := by
  obtain ⟨i0, hi, hz0, hz1, hz2⟩ := info_parts info5
  have hpl := Sha.padlen_le n
  have hpg := Sha.padlen_ge n
  have hpm := Sha.padlen_mod n
  have hlp : (Sha.pad n).length = Sha.padlen n := Sha.pad_len _
  have hat := pad_at n
  have hw8 : IntKind.u64.wrap ((n : Int) * 8) = ((8 * n % 18446744073709551616 : Nat) : Int) := by
    have e2 : IntKind.u64.wrap ((n : Int) * 8) = ((n : Int) * 8) % 18446744073709551616 := by simp [IntKind.wrap, IntKind.signed, IntKind.bits]
    rw [e2]
    omega
  have hc64 : 8 * n % 18446744073709551616 < 18446744073709551616 := Nat.mod_lt _ (by omega)
  have HB : Hid (∀ m, m < 8 → 8 * n % 18446744073709551616 / 2 ^ (8 * m) % 256 = 8 * n / 2 ^ (8 * m) % 256) := fun m hm => byte_of n m hn hm
  generalize 8 * n % 18446744073709551616 = c at *
  go_enter Tryd.func5, Tryd.ntmps5
  go_wp2_with fail
  refine (lawknown_any w hT).mono ?_
  rintro e w1 ⟨rfl, c1⟩
  go_wp2_with fail
  refine (pad_any n w1 hn).mono ?_
  rintro e w2 ⟨g, rfl, hg, hb, c2⟩
  have c02 := chg_then c1 c2
  have hgw : w.heap.size ≤ g := Nat.le_trans c1.size hg
  have z0 : w2.cell? ⟨g, 0, none⟩ = some (.int .u8 128) := by
    have := byts_cell hb 0 (by omega)
    rw [hat 0 (by omega), if_pos rfl] at this
    exact this
  have hm0 : ((n : Int) % 64 + (Sha.padlen n : Nat)) % 64 = 0 := by omega
  clear c1 c2
  generalize hp : Sha.padlen n = lp at *
  go_wp2_with fail
  clear z0 hm0
  go_loop [6] (fun i => ∃ j : Nat, 1 ≤ j ∧ j ≤ lp ∧ i = .int .i64 j) (fun i => lp - (intOf i).toNat)
  case atStart => exact ⟨1, by omega, by omega, rfl⟩
  case round =>
    obtain ⟨j, hj1, hj2, rfl⟩ := hrel
    by_cases hlt : j < lp
    · have cj := byts_cell hb j (by omega)
      have hv := hat j hlt
      rw [if_neg (by omega)] at hv
      by_cases hA : lp - 8 ≤ j
      · rw [if_pos hA] at hv
        have hix : (lp : Int) - 1 - (j : Int) = ((lp - 1 - j : Nat) : Int) := by omega
        have hV : (c : Int) / 2 ^ (8 * (lp - 1 - j)) % 256 = (((Sha.pad n).getD j 0 : Nat) : Int) := by
          rw [hv, ← HB.out (lp - 1 - j) (by omega)]
          simp
        have hA2 : (lp : Int) - 8 ≤ (j : Int) := by omega
        have hm8 : lp - 1 - j < 8 := by omega
        clear hv hA hb hat
        generalize (Sha.pad n).getD j 0 = v at *
        generalize lp - 1 - j = m at *
        go_wp2
        go_round
        case rel => exact ⟨j + 1, by omega, by omega, by go_num⟩
        case measure => simp [intOf]; omega
      · rw [if_neg hA] at hv
        rw [hv] at cj
        have hA2 : (j : Int) < (lp : Int) - 8 := by omega
        clear hv hA hb hat
        go_wp2
        go_round
        case rel => exact ⟨j + 1, by omega, by omega, by go_num⟩
        case measure => simp [intOf]; omega
    · have hL : (Sha.pad n).length = lp := hlp
      go_wp2_with fail
      go_loopw [71] (fun i wr => ∃ k : Nat, k ≤ lp ∧ i = .int .i64 k ∧ wr.heap[g]? = some (.cells (byts (nines (Sha.pad n) k)).toArray 5 (0, 0)) ∧ Chg (fun _ => False) w wr) (fun i _ => lp - (intOf i).toNat)
      case atStart => exact ⟨0, by omega, rfl, by simpa [nines] using hb, c02⟩
      case round =>
        clear hb c02
        obtain ⟨k, hk, rfl, hb, c02⟩ := hrel
        by_cases hlt2 : k < lp
        · have ck := byts_cell hb k (by rw [nines_len _ _ (by omega)]; omega)
          have fk : wr.frozen? ⟨g, k, none⟩ = false := by simp only [World.frozen?, hb]; rfl
          have HB1 : Hid ((wr.setCell ⟨g, k, none⟩ (.int .u8 9)).heap[g]? = some (.cells (byts (nines (Sha.pad n) (k + 1))).toArray 5 (0, 0))) := by
            have := byts_set (nines (Sha.pad n) k) k 9
            show _ = _
            rw [blk_setk hb, ← nines_step _ _ (by omega), ← this]
            rfl
          have HC1 : Hid (Chg (fun _ => False) w (wr.setCell ⟨g, k, none⟩ (.int .u8 9))) := c02.setCell (.inr hgw) _
          generalize (nines (Sha.pad n) k).getD k 0 = v at *
          clear hb c02 hat HB
          go_wp2
          go_roundw
          case rel => exact ⟨k + 1, by omega, by go_num, HB1.out, HC1.out⟩
          case measure => simp [intOf]; omega
        · have e1 : nines (Sha.pad n) k = List.replicate lp 9 := by rw [show k = (Sha.pad n).length by omega, nines_all, hL]
          rw [e1] at hb
          have hlt3 : g < wr.heap.size := lt_of_blk hb
          have ho : wr.ownsRow w.heap.size 5 1 (.slice (some ⟨g, 0, none⟩) lp lp) lp (cells8 (up (List.replicate lp 9))) := by
            have := own_blk (B := w.heap.size) hb hgw (by simp; omega)
            simpa using this
          have h99 : Row8 (wr.alloc (.cells #[.int .u8 9, .int .u8 9] 5)) (some ⟨wr.heap.size, 0, none⟩) 2 2 (up [9, 9]) := row8_new wr [9, 9] 5 (0, 0) 2 2 rfl
          clear hb hL e1
          go_wp2_with (at_builtin; refine wpList_append_moved rfl _ _ 29 rfl w.heap.size 5 i0 (.int .u8 0) 1 1 Tryd.underlying29 hi hz0 hz1 hz2 rfl (by decide) _ lp (cells8 (up (List.replicate lp 9))) rfl (some ⟨wr.heap.size, 0, none⟩) 2 2 rfl (cells8 (up [9, 9])) (ho.alloc _) h99.src (oneCells _) (by unfold maxLen; omega) (by omega) (by have := c02.size; simp; omega) ?_)
          intro v1 w4 ho1 hg1 _
          have c4 : Chg (fun _ => False) w w4 := (c02.alloc _).grown hg1 (fun k e => .inr ((ho.lt k e).1))
          rw [cells8_append, ← up_append, show List.replicate lp 9 ++ [9, 9] = List.replicate (lp + 2) 9 by rw [List.replicate_succ', List.replicate_succ', List.append_assoc]; rfl] at ho1
          clear hg1 ho h99 c02
          obtain ⟨ba, bc, rfl, hrow, hle, hblk⟩ := own_row8d ho1
          clear ho1
          go_wp2_with fail
          refine (pad_any n w4 hn).mono ?_
          rintro e w5 ⟨q, rfl, hq, hqb, c5⟩
          rw [hp]
          have hrow5 := row8_chg hrow c5
          have c05 := chg_then c4 c5
          clear hrow c4 c5
          obtain ⟨y, rfl, hy⟩ : ∃ y, ba = some y ∧ ∀ j u, ((up (List.replicate (lp + 2) 9)).map (Value.int .u8))[j]? = some u → w5.cell? (y.add j) = some u := by
            rcases hrow5.2 with ⟨_, h0, _⟩ | h
            · omega
            · exact h
          go_wp2_with fail
          go_loop [85] (fun i => ∃ k : Nat, k ≤ lp + 2 ∧ i = .int .i64 k) (fun i => lp + 2 - (intOf i).toNat)
          case atStart => exact ⟨0, by omega, rfl⟩
          case round =>
            obtain ⟨k, hk5, rfl⟩ := hrel
            by_cases hlt5 : k < lp + 2
            · have cy : w5.cell? (y.add k) = some (.int .u8 9) := hy k _ (by simp [up, hlt5])
              clear hy hrow5 hqb hat HB
              go_wp2
              go_round
              case rel => exact ⟨k + 1, by omega, by go_num⟩
              case measure => simp [intOf]; omega
            · have q0 : w5.cell? ⟨q, 0, none⟩ = some (.int .u8 128) := by
                have := byts_cell hqb 0 (by omega)
                rw [hat 0 (by omega), if_pos rfl] at this
                exact this
              have q1 := byts_cell hqb (lp - 1) (by omega)
              have hv := hat (lp - 1) (by omega)
              rw [if_neg (by omega), if_pos (by omega), Nat.sub_self, ← HB.out 0 (by decide)] at hv
              have hV : (c : Int) % 256 = (((Sha.pad n).getD (lp - 1) 0 : Nat) : Int) := by
                rw [hv]
                simp
              have hix : (lp : Int) - 1 = ((lp - 1 : Nat) : Int) := by omega
              have hlq : lp - 1 < lp := by omega
              clear hv hy hrow5 hqb hat HB
              generalize (Sha.pad n).getD (lp - 1) 0 = v at *
              generalize lp - 1 = m at *
              go_wp2
              go_ret
              exact ⟨rfl, c05⟩

theorem walk (n : Int) (w : World) (hT : Tab w) (h1 : -9223372036854775808 ≤ n) (h2 : n ≤ 9223372036854775807) : Calls Tryd.prog 5 #[.int .i64 n] w fun e w' => e = .returned (.bool true) ∧ Chg (fun _ => False) w w' := by
  by_cases h0 : n < 0
  · exact walk_neg n w hT h0
  · obtain ⟨m, rfl⟩ : ∃ m : Nat, n = (m : Int) := ⟨n.toNat, by omega⟩
    exact walk_nat m w hT (by omega)
set_option maxRecDepth 100000 in
theorem lifted (os : Os) (started : os.Started) (H : Type) (enc : TypeId × Value → H) :
    ReturnsInHanded {} Tryd.checked os 5 .any (fun w args => (Rows.shaPadsSpec.pre enc Tryd.prog Tryd.f5 [] false w args ∧ laidMetH Tryd.prog [("pith/sha.first", Rows.laid_pith_sha_first), ("pith/sha.constants", Rows.laid_pith_sha_constants)] w) ∧ sizedMet enc Tryd.prog Tryd.f5 (OpenSpec.ofChange Rows.shaPadsSpec) false w args)
      (Rows.shaPadsSpec.post enc Tryd.prog Tryd.f5 false true false false) := by
  refine returnsInHanded_of_change_and (C := Tryd.checked) (X := fun w _ => laidMetH Tryd.prog [("pith/sha.first", Rows.laid_pith_sha_first), ("pith/sha.constants", Rows.laid_pith_sha_constants)] w) (fun _ _ _ hh h => h.of_heap hh) own started (by kernel_rfl) Tryd.func5
    (ChangeSpec.witness_shaped (enc := enc) (C := Tryd.checked) (os := os) (X := fun w _ => laidMetH Tryd.prog [("pith/sha.first", Rows.laid_pith_sha_first), ("pith/sha.constants", Rows.laid_pith_sha_constants)] w) false (World.doorLaid Tryd.prog 400 os) #[.int .i64 0] 8 rfl (World.shaped_of_RefB (by kernel_rfl) (by kernel_rfl)) (by kernel_rfl) (by kernel_rfl) (by kernel_rfl) (door_met os _)) ?_
  intro W base args ds gs before hval0 hW _ hsz0 hL _
  have hsz : (DataW.weightsEach Tryd.prog (Tryd.f5.params.toList ++ Rows.shaPadsSpec.plain.varTypes Tryd.prog) (ds ++ gs)).all (· ≤ reachBytes) = true := hsz0
  clear hsz0
  have hT := tab_of_laid hL
  have hval : ∀ (j : Nat) t v, Tryd.f5.params[j]? = some t → args[j]? = some v → Value.okWide Tryd.prog W .any base t v := hval0
  have hW' := hW
  obtain ⟨p, q, hA0, hV, rfl, hfz, hnd⟩ := hW
  have hA : DataW.TrodAll enc Tryd.prog W 0 (fun _ => true) true Tryd.f5.params.toList args.toList ds p := hA0
  rw [Tryd.params5] at hA hval hsz
  obtain ⟨v0, vs0, d0, ds0, p0, q0, hargs, rfl, rfl, h0, r0⟩ := trodAll_cons hA
  obtain ⟨rfl, rfl, rfl⟩ := trodAll_nil r0
  obtain rfl : args = #[v0] := by cases args; simp_all
  obtain ⟨rfl, rfl⟩ := trodVars_none hV
  obtain ⟨a0, rfl, rfl, rfl, w0⟩ := open_int Tryd.underlying3 (hval 0 3 v0 rfl rfl) h0
  clear hA0 hval0
  simp only [List.append_nil] at hW'
  refine (walk a0 W hT (bounds_i64 w0).1 (bounds_i64 w0).2).mono fun e W' ⟨he, hCC⟩ => ?_
  subst he
  have bel := below_of hCC
  exact ⟨_, rfl, _, _, _, [], _, [], hW', trodAll_mk1 (shut_bool Tryd.underlying4 _), (trodAll_cons_mk (shut_int Tryd.underlying3 w0) trodAll_mk0), rfl, bel.frame _, fun h => by cases h⟩

theorem over : Rows.ShaPadsSaid :=
  OpenClaim.holds_of_wide 5 Tryd.f5 rfl rfl rfl rfl rfl rfl rfl ⟨rfl, rfl, rfl, rfl, rfl⟩ rfl rfl rfl rfl rfl (by kernel_rfl) Tryd.func5 (by kernel_rfl)
    (of_decide_eq_true (by kernel_rfl)) (by unfold Func.isWrapper; first | (rw [if_pos (by decide +kernel)]; kernel_rfl) | (rw [if_neg (by decide +kernel)]; exact ⟨rfl, rfl⟩))
    (fun os started H enc _ => lifted os started H enc)

theorem card : Rows.ShaPadsCardSaid :=
  Claim7.holds_tied_plain_at .later [] [.data, .data] true (true, "8b1ae774ebd725d4824cf407a67ed38f8bdfd295c11d528f2d51c47d3ae0cc53") false
    over (fun _ h => by cases h) (by kernel_rfl) (fun _ h => by cases h) shaPads_row_tie rfl ⟨rfl, rfl⟩ (by kernel_rfl) rfl
    (fun f fn hf hfn => by
      obtain rfl : f = 5 := Option.some.inj ((show Tryd.prog.funcNamed "pith/pithlaw04.ShaPads" = some 5 by kernel_rfl).symm.trans hf) |>.symm
      obtain rfl : fn = Tryd.f5 := (Option.some.inj (Tryd.func5.symm.trans hfn)).symm
      exact ⟨by kernel_rfl, fun j t ht => by
        rw [Tryd.params5] at ht
        have hm : t ∈ [3] := by simpa using Array.mem_of_getElem? ht
        have hall : ([3].all fun u => !Tryd.prog.wantsStandIn u) = true := by kernel_rfl
        exact (show Tryd.prog.wantsStandIn t = false by simpa using List.all_eq_true.1 hall t hm)⟩)
    (by kernel_rfl)
end Go.Proofs.YtnedllhlmddmoaaDoor.shaPads
namespace Go.Proofs.YtnedllhlmddmoaaDoor
theorem shaPads_holds : Rows.ShaPadsCardSaid := shaPads.card
#print axioms shaPads_holds
end Go.Proofs.YtnedllhlmddmoaaDoor
