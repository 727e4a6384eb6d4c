/- FrameReads holds, with no condition, but what the program's own text lays: for all bytes handed to it the call returns true and the arguments read afterwards as they did. -/
import Derived.Test.YtikokgngkagieaaDoorFrt
import Derived.Test.YtikokgngkagieaaDoorFrg
import Derived.Test.YtikokgngkagieaaDoorOpenF
import Derived.Test.YtikokgngkagieaaDoorCards
import Derived.Test.YtikokgngkagieaaDoorTie
import Derived.SevenTiedAt
import Derived.LaidMore
import Derived.Stop.Joined
import Derived.Deep.DeepHandedRow
namespace Go.Proofs.YtikokgngkagieaaDoor.frameReads
open Go.ChangeShapes Go.WideShapes Go.ChangeAt Go.WideMaps Go.WideElems Go.RowKit
set_option linter.unusedVariables false
theorem own : ownKnob Tryd.prog.godebug = none := by kernel_rfl
theorem laidOut : laidOutB Tryd.prog = true := by kernel_rfl
theorem door_met (os : Os) (args : Array Value) : laidMetH Tryd.prog [("pith/crc.half32", Rows.laid_pith_crc_half32), ("pith/sha.first", Rows.laid_pith_sha_first), ("pith/frame.headMark", Rows.laid_pith_frame_headMark), ("pith/frame.footMark", Rows.laid_pith_frame_footMark)] ((World.doorLaid Tryd.prog 400 os).forCall (fun _ _ => 0) ⟨#[], args, []⟩).memory :=
  laidMetH_of_parts3 (fuel := 8) (laidMet_of_run' 8 (by kernel_rfl) (by kernel_rfl)) (by kernel_rfl) (by kernel_rfl)
set_option maxRecDepth 100000 in
theorem lifted (os : Os) (started : os.Started) (H : Type) (enc : TypeId × Value → H) :
    ReturnsInHanded {} Tryd.checked os 6 .any (fun w args => (Rows.frameReadsSpec.pre enc Tryd.prog Tryd.f6 [] false w args ∧ laidMetH Tryd.prog [("pith/crc.half32", Rows.laid_pith_crc_half32), ("pith/sha.first", Rows.laid_pith_sha_first), ("pith/frame.headMark", Rows.laid_pith_frame_headMark), ("pith/frame.footMark", Rows.laid_pith_frame_footMark)] w) ∧ sizedMet enc Tryd.prog Tryd.f6 (OpenSpec.ofChange Rows.frameReadsSpec) false w args)
      (Rows.frameReadsSpec.post enc Tryd.prog Tryd.f6 false true false false) := by
  refine returnsInHanded_of_change_and (C := Tryd.checked) (X := fun w _ => laidMetH Tryd.prog [("pith/crc.half32", Rows.laid_pith_crc_half32), ("pith/sha.first", Rows.laid_pith_sha_first), ("pith/frame.headMark", Rows.laid_pith_frame_headMark), ("pith/frame.footMark", Rows.laid_pith_frame_footMark)] w) (fun _ _ _ hh h => h.of_heap hh) own started (by kernel_rfl) Tryd.func6
    (ChangeSpec.witness_shaped (enc := enc) (C := Tryd.checked) (os := os) (X := fun w _ => laidMetH Tryd.prog [("pith/crc.half32", Rows.laid_pith_crc_half32), ("pith/sha.first", Rows.laid_pith_sha_first), ("pith/frame.headMark", Rows.laid_pith_frame_headMark), ("pith/frame.footMark", Rows.laid_pith_frame_footMark)] w) false (World.doorLaid Tryd.prog 400 os) #[.slice none 0 0] 8 rfl (World.shaped_of_RefB (by kernel_rfl) (by kernel_rfl)) (by kernel_rfl) (by kernel_rfl) (by kernel_rfl) (door_met os _)) ?_
  intro W base args ds gs before hval0 hW _ hsz0 hL _
  have hsz : (DataW.weightsEach Tryd.prog (Tryd.f6.params.toList ++ Rows.frameReadsSpec.plain.varTypes Tryd.prog) (ds ++ gs)).all (· ≤ reachBytes) = true := hsz0
  clear hsz0
  have hval : ∀ (j : Nat) t v, Tryd.f6.params[j]? = some t → args[j]? = some v → Value.okWide Tryd.prog W .any base t v := hval0
  have hW' := hW
  obtain ⟨p, q, hA0, hV, rfl, hfz, hnd⟩ := hW
  have hA : DataW.TrodAll enc Tryd.prog W 0 (fun _ => true) true Tryd.f6.params.toList args.toList ds p := hA0
  rw [Tryd.params6] at hA hval hsz
  obtain ⟨v0, vs0, d0, ds0, p0, q0, hargs, rfl, rfl, h0, r0⟩ := trodAll_cons hA
  obtain ⟨rfl, rfl, rfl⟩ := trodAll_nil r0
  obtain rfl : args = #[v0] := by cases args; simp_all
  obtain ⟨rfl, rfl⟩ := trodVars_none hV
  obtain ⟨a0, len0, cap0, rfl⟩ := okWide_slice Tryd.underlying22 (hval 0 22 v0 rfl rfl)
  have k0 := h0
  have lt0 : ∀ x ∈ p0, x.block < W.heap.size := by obtain ⟨m, hm⟩ := k0; exact DataW.trod_lt m _ _ _ hm
  obtain ⟨bs0, hb0, hd0, hc0, hz0, hN0⟩ := open_bytes8 h0
  have hl0 : bs0.length = len0 := by have h9 := hb0.1; rw [nums_len] at h9; exact h9
  have hn0 := hN0 140737488351232 (fun elems spare e => by subst e; have h9 := sized_slice hsz (j := 0) (t := 22) (e := 5) rfl rfl Tryd.underlying22; rw [obU] at h9; unfold reachBytes at h9; omega)
  clear hA0 hval0
  refine (reads24_any frameSpec a0 len0 cap0 bs0 W ((fun _ h => ftab_of_laid (tab_of_laid h)) W hL) hb0 hd0 hc0 (by omega)).mono fun e W' ⟨he, hCC⟩ => ?_
  subst he
  have bel := below_of hCC
  exact ⟨_, rfl, _, _, _, [], _, [], hW', trodAll_mk1 (shut_bool Tryd.underlying4 _), (trodAll_cons_mk (Below.trod laidOut (by kernel_rfl) (of_decide_eq_true (by kernel_rfl)) k0 bel lt0) trodAll_mk0), rfl, bel.frame _, fun h => by cases h⟩
theorem over : Rows.FrameReadsSaid :=
  OpenClaim.holds_of_wide 6 Tryd.f6 rfl rfl rfl rfl rfl rfl rfl ⟨rfl, rfl, rfl, rfl, rfl⟩ rfl rfl rfl rfl rfl (by kernel_rfl) Tryd.func6 (by kernel_rfl)
    (of_decide_eq_true (by kernel_rfl)) (by unfold Func.isWrapper; first | (rw [if_pos (by decide +kernel)]; kernel_rfl) | (rw [if_neg (by decide +kernel)]; exact ⟨rfl, rfl⟩))
    (fun os started H enc _ => lifted os started H enc)
theorem card : Rows.FrameReadsCardSaid :=
  Claim7.holds_tied_plain_at .later [] [.data, .data, .data, .data] true (true, "c7131705488fe78d19a6f69d5441e840bf5774c33023858c197a5373b1c0223f") false
    (over) (fun _ h => by cases h) (by kernel_rfl) (fun _ h => by cases h) frameReads_row_tie rfl ⟨rfl, rfl⟩ (by kernel_rfl) rfl
    (fun f fn hf hfn => by
      obtain rfl : f = 6 := Option.some.inj ((show Tryd.prog.funcNamed "pith/pithlaw24.FrameReads" = some 6 by kernel_rfl).symm.trans hf) |>.symm
      obtain rfl : fn = Tryd.f6 := (Option.some.inj (Tryd.func6.symm.trans hfn)).symm
      exact ⟨by kernel_rfl, fun j t ht => by
        rw [Tryd.params6] at ht
        have hm : t ∈ [22] := by simpa using Array.mem_of_getElem? ht
        have hall : ([22].all fun u => !Tryd.prog.wantsStandIn u) = true := by kernel_rfl
        exact (show Tryd.prog.wantsStandIn t = false by simpa using List.all_eq_true.1 hall t hm)⟩)
    (by kernel_rfl)
end Go.Proofs.YtikokgngkagieaaDoor.frameReads
namespace Go.Proofs.YtikokgngkagieaaDoor
theorem frameReads_holds : Rows.FrameReadsCardSaid := frameReads.card
#print axioms frameReads_holds
end Go.Proofs.YtikokgngkagieaaDoor
