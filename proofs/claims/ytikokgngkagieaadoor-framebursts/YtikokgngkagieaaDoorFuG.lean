/- FrameBursts holds, with no condition, but what the program's own text lays: for every turn handed to it the call returns true and the arguments read afterwards as they did. -/
import Derived.Test.YtikokgngkagieaaDoorFrt
import Derived.Test.YtikokgngkagieaaDoorFrd
import Derived.Test.YtikokgngkagieaaDoorOpenF
import Derived.Test.YtikokgngkagieaaDoorCards
import Derived.Test.YtikokgngkagieaaDoorTie
import Derived.SevenTiedAt
import Derived.LaidMore
import Derived.Stop.Joined
import Derived.Deep.DeepHandedRow
namespace Go.Proofs.YtikokgngkagieaaDoor.frameBursts
open Go.ChangeShapes Go.WideShapes Go.ChangeAt Go.WideMaps Go.WideElems Go.RowKit
set_option linter.unusedVariables false
theorem own : ownKnob Tryd.prog.godebug = none := by kernel_rfl
theorem laidOut : laidOutB Tryd.prog = true := by kernel_rfl
theorem door_met (os : Os) (args : Array Value) : laidMetH Tryd.prog [("pith/crc.half32", Rows.laid_pith_crc_half32), ("pith/sha.first", Rows.laid_pith_sha_first), ("pith/frame.headMark", Rows.laid_pith_frame_headMark), ("pith/frame.footMark", Rows.laid_pith_frame_footMark)] ((World.doorLaid Tryd.prog 400 os).forCall (fun _ _ => 0) ⟨#[], args, []⟩).memory :=
  laidMetH_of_parts3 (fuel := 8) (laidMet_of_run' 8 (by kernel_rfl) (by kernel_rfl)) (by kernel_rfl) (by kernel_rfl)
set_option maxRecDepth 100000 in
theorem lifted (os : Os) (started : os.Started) (H : Type) (enc : TypeId × Value → H) :
    ReturnsInHanded {} Tryd.checked os 4 .any (fun w args => (Rows.frameBurstsSpec.pre enc Tryd.prog Tryd.f4 [] false w args ∧ laidMetH Tryd.prog [("pith/crc.half32", Rows.laid_pith_crc_half32), ("pith/sha.first", Rows.laid_pith_sha_first), ("pith/frame.headMark", Rows.laid_pith_frame_headMark), ("pith/frame.footMark", Rows.laid_pith_frame_footMark)] w) ∧ sizedMet enc Tryd.prog Tryd.f4 (OpenSpec.ofChange Rows.frameBurstsSpec) false w args)
      (Rows.frameBurstsSpec.post enc Tryd.prog Tryd.f4 false true false false) := by
  refine returnsInHanded_of_change_and (C := Tryd.checked) (X := fun w _ => laidMetH Tryd.prog [("pith/crc.half32", Rows.laid_pith_crc_half32), ("pith/sha.first", Rows.laid_pith_sha_first), ("pith/frame.headMark", Rows.laid_pith_frame_headMark), ("pith/frame.footMark", Rows.laid_pith_frame_footMark)] w) (fun _ _ _ hh h => h.of_heap hh) own started (by kernel_rfl) Tryd.func4
    (ChangeSpec.witness_shaped (enc := enc) (C := Tryd.checked) (os := os) (X := fun w _ => laidMetH Tryd.prog [("pith/crc.half32", Rows.laid_pith_crc_half32), ("pith/sha.first", Rows.laid_pith_sha_first), ("pith/frame.headMark", Rows.laid_pith_frame_headMark), ("pith/frame.footMark", Rows.laid_pith_frame_footMark)] w) false (World.doorLaid Tryd.prog 400 os) #[.agg #[.int .i64 0, .int .i64 0, .int .i64 0, .int .u32 0]] 8 rfl (World.shaped_of_RefB (by kernel_rfl) (by kernel_rfl)) (by kernel_rfl) (by kernel_rfl) (by kernel_rfl) (door_met os _)) ?_
  intro W base args ds gs before hval0 hW _ hsz0 hL _
  have hsz : (DataW.weightsEach Tryd.prog (Tryd.f4.params.toList ++ Rows.frameBurstsSpec.plain.varTypes Tryd.prog) (ds ++ gs)).all (· ≤ reachBytes) = true := hsz0
  clear hsz0
  have hval : ∀ (j : Nat) t v, Tryd.f4.params[j]? = some t → args[j]? = some v → Value.okWide Tryd.prog W .any base t v := hval0
  have hW' := hW
  obtain ⟨p, q, hA0, hV, rfl, hfz, hnd⟩ := hW
  have hA : DataW.TrodAll enc Tryd.prog W 0 (fun _ => true) true Tryd.f4.params.toList args.toList ds p := hA0
  rw [Tryd.params4] at hA hval hsz
  obtain ⟨v0, vs0, d0, ds0, p0, q0, hargs, rfl, rfl, h0, r0⟩ := trodAll_cons hA
  obtain ⟨rfl, rfl, rfl⟩ := trodAll_nil r0
  obtain rfl : args = #[v0] := by cases args; simp_all
  obtain ⟨rfl, rfl⟩ := trodVars_none hV
  have k0 := h0
  have lt0 : ∀ x ∈ p0, x.block < W.heap.size := by obtain ⟨m, hm⟩ := k0; exact DataW.trod_lt m _ _ _ hm
  obtain ⟨o0, rfl, i0⟩ := open_tuf (hval 0 38 v0 rfl rfl) h0
  clear hA0 hval0
  refine (bursts24_any frameSpec o0.k o0.q o0.at_ o0.m W ((fun _ h => ftab_of_laid (tab_of_laid h)) W hL) i0.m).mono fun e W' ⟨he, hCC⟩ => ?_
  subst he
  have bel := below_of hCC
  exact ⟨_, rfl, _, _, _, [], _, [], hW', trodAll_mk1 (shut_bool Tryd.underlying4 _), (trodAll_cons_mk (Below.trod laidOut (by kernel_rfl) (of_decide_eq_true (by kernel_rfl)) k0 bel lt0) trodAll_mk0), rfl, bel.frame _, fun h => by cases h⟩
theorem over : Rows.FrameBurstsSaid :=
  OpenClaim.holds_of_wide 4 Tryd.f4 rfl rfl rfl rfl rfl rfl rfl ⟨rfl, rfl, rfl, rfl, rfl⟩ rfl rfl rfl rfl rfl (by kernel_rfl) Tryd.func4 (by kernel_rfl)
    (of_decide_eq_true (by kernel_rfl)) (by unfold Func.isWrapper; first | (rw [if_pos (by decide +kernel)]; kernel_rfl) | (rw [if_neg (by decide +kernel)]; exact ⟨rfl, rfl⟩))
    (fun os started H enc _ => lifted os started H enc)
theorem card : Rows.FrameBurstsCardSaid :=
  Claim7.holds_tied_plain_at .later [] [.data, .data, .data, .data] true (true, "c7131705488fe78d19a6f69d5441e840bf5774c33023858c197a5373b1c0223f") false
    (over) (fun _ h => by cases h) (by kernel_rfl) (fun _ h => by cases h) frameBursts_row_tie rfl ⟨rfl, rfl⟩ (by kernel_rfl) rfl
    (fun f fn hf hfn => by
      obtain rfl : f = 4 := Option.some.inj ((show Tryd.prog.funcNamed "pith/pithlaw24.FrameBursts" = some 4 by kernel_rfl).symm.trans hf) |>.symm
      obtain rfl : fn = Tryd.f4 := (Option.some.inj (Tryd.func4.symm.trans hfn)).symm
      exact ⟨by kernel_rfl, fun j t ht => by
        rw [Tryd.params4] at ht
        have hm : t ∈ [38] := by simpa using Array.mem_of_getElem? ht
        have hall : ([38].all fun u => !Tryd.prog.wantsStandIn u) = true := by kernel_rfl
        exact (show Tryd.prog.wantsStandIn t = false by simpa using List.all_eq_true.1 hall t hm)⟩)
    (by kernel_rfl)
end Go.Proofs.YtikokgngkagieaaDoor.frameBursts
namespace Go.Proofs.YtikokgngkagieaaDoor
theorem frameBursts_holds : Rows.FrameBurstsCardSaid := frameBursts.card
#print axioms frameBursts_holds
end Go.Proofs.YtikokgngkagieaaDoor
