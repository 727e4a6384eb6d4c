/- LzencRefused holds, with no condition but what the program's own text lays: for every set-up and every list of symbols handed to it the call returns true and the arguments read afterwards as they did. -/
import Derived.Test.YthideplpcnhncaaGreatDoorB32Jy
import Derived.Test.YthideplpcnhncaaGreatDoorLf
import Derived.Test.YthideplpcnhncaaGreatDoorB35OpenS
import Derived.Test.YthideplpcnhncaaGreatDoorCards
import Derived.Test.YthideplpcnhncaaGreatDoorTie
import Derived.SevenTiedAt
import Derived.LaidMore
import Derived.Stop.Joined
import Derived.Deep.DeepHandedRow
namespace Go.Proofs.YthideplpcnhncaaGreatDoor.lzencRefused
open Go.ChangeShapes Go.WideShapes Go.ChangeAt Go.WideMaps Go.WideElems Go.RowKit
set_option linter.unusedVariables false
theorem own:ownKnob Tryz.prog.godebug=none:=by kernel_rfl
theorem laidOut:laidOutB Tryz.prog=true:=by kernel_rfl
theorem door_met (os:Os)(args:Array Value):laidMetH Tryz.prog [("pith/state.moves",Rows.laid_pith_state_moves)] ((World.doorLaid Tryz.prog 400 os).forCall (fun _ _=>0) ⟨#[],args,[]⟩).memory:=
 laidMetH_of_parts3 (fuel:=8) (laidMet_of_run' 8 (by kernel_rfl) (by kernel_rfl)) (by kernel_rfl) (by kernel_rfl)
set_option maxRecDepth 100000 in
theorem lifted (os:Os)(started:os.Started)(H:Type)(enc:TypeId×Value→H):
  ReturnsInHanded {} Tryz.checked os 3 .any (fun w args=>(Rows.lzencRefusedSpec.pre enc Tryz.prog Tryz.f3 [] false w args∧laidMetH Tryz.prog [("pith/state.moves",Rows.laid_pith_state_moves)] w)∧sizedMet enc Tryz.prog Tryz.f3 (OpenSpec.ofChange Rows.lzencRefusedSpec) false w args)
   (Rows.lzencRefusedSpec.post enc Tryz.prog Tryz.f3 false true false false):=by
 refine returnsInHanded_of_change_and (C:=Tryz.checked) (X:=fun w _=>laidMetH Tryz.prog [("pith/state.moves",Rows.laid_pith_state_moves)] w) (fun _ _ _ hh h=>h.of_heap hh) own started (by kernel_rfl) Tryz.func3
  (ChangeSpec.witness_shaped (enc:=enc) (C:=Tryz.checked) (os:=os) (X:=fun w _=>laidMetH Tryz.prog [("pith/state.moves",Rows.laid_pith_state_moves)] w) false (World.doorLaid Tryz.prog 400 os) #[.agg #[.int .i64 0,.int .i64 0,.int .i64 0,.int .i64 0],.slice none 0 0] 8 rfl (World.shaped_of_RefB (by kernel_rfl) (by kernel_rfl)) (by kernel_rfl) (by kernel_rfl) (by kernel_rfl) (door_met os _)) ?_
 intro W base args ds gs before hval0 hW _ hsz0 hL _
 have hsz:(DataW.weightsEach Tryz.prog (Tryz.f3.params.toList++Rows.lzencRefusedSpec.plain.varTypes Tryz.prog) (ds++gs)).all (· ≤reachBytes)=true:=hsz0
 clear hsz0
 have hval: ∀(j:Nat) t v,Tryz.f3.params[j]?=some t→args[j]?=some v→Value.okWide Tryz.prog W .any base t v:=hval0
 have hW':=hW
 obtain⟨p,q,hA0,hV,rfl,hfz,hnd⟩:=hW
 have hA:DataW.TrodAll enc Tryz.prog W 0 (fun _=>true) true Tryz.f3.params.toList args.toList ds p:=hA0
 rw [Tryz.params3]at hA hval hsz
 obtain⟨v0,vs0,d0,ds0,p0,q0,hargs,rfl,rfl,h0,r0⟩:=trodAll_cons hA
 obtain⟨v1,vs1,d1,ds1,p1,q1,rfl,rfl,rfl,h1,r1⟩:=trodAll_cons r0
 obtain⟨rfl,rfl,rfl⟩:=trodAll_nil r1
 obtain rfl:args= #[v0,v1]:=by cases args;simp_all
 obtain⟨rfl,rfl⟩:=trodVars_none hV
 have k0:=h0
 have lt0: ∀x∈p0,x.block<W.heap.size:=by obtain⟨m,hm⟩:=k0;exact DataW.trod_lt m _ _ _ hm
 obtain⟨o0,x0,rfl,i0,n0⟩:=open_setup (hval 0 25 v0 rfl rfl) h0
 obtain⟨a1,len1,cap1,rfl⟩:=okWide_slice Tryz.underlying26 (hval 1 26 v1 rfl rfl)
 have k1:=h1
 have lt1: ∀x∈p1,x.block<W.heap.size:=by obtain⟨m,hm⟩:=k1;exact DataW.trod_lt m _ _ _ hm
 obtain⟨l1,hb1,hl1,hN1⟩:=open_symsL h1
 have hn1:=hN1 4398046511104 (fun elems spare e=>by subst e;have h9:=sized_slice hsz (j:=1) (t:=26) (e:=34) rfl rfl Tryz.underlying26;rw [bytesSy]at h9;unfold reachBytes at h9;omega)
 clear hA0 hval0
 refine(refused_any lzSpec o0.lc o0.lp o0.pb x0 i0 n0 a1 cap1 len1 l1 W (@tbE_of W hL) hl1 hb1 hn1).mono fun e W' ⟨he,hCC⟩=> ?_
 subst he
 have bel:=below_of hCC
 exact⟨_,rfl,_,_,_,[],_,[],hW',trodAll_mk1 (shut_bool Tryz.underlying4 _),(trodAll_cons_mk (Below.trod laidOut (by kernel_rfl) (of_decide_eq_true (by kernel_rfl)) k0 bel lt0) (trodAll_cons_mk (Below.trod laidOut (by kernel_rfl) (of_decide_eq_true (by kernel_rfl)) k1 bel lt1) trodAll_mk0)),rfl,bel.frame _,fun h=>by cases h⟩
theorem over:Rows.LzencRefusedSaid:=
 OpenClaim.holds_of_wide 3 Tryz.f3 rfl rfl rfl rfl rfl rfl rfl ⟨rfl,rfl,rfl,rfl,rfl⟩ rfl rfl rfl rfl rfl (by kernel_rfl) Tryz.func3 (by kernel_rfl)
  (of_decide_eq_true (by kernel_rfl)) (by unfold Func.isWrapper;first|(rw [if_pos (by decide+kernel)];kernel_rfl)|(rw [if_neg (by decide+kernel)];exact⟨rfl,rfl⟩))
  (fun os started H enc _=>lifted os started H enc)
theorem card:Rows.LzencRefusedCardSaid:=
 Claim7.holds_tied_plain_at .later [] [.data] true (true, "4defdc764b9d8fc37a73023d94f046d750ecc581c73f2ad878f56bbe144ba14a") true
  (over) (fun _ h=>by cases h) (by kernel_rfl) (fun _ h=>by cases h) lzencRefused_row_tie rfl ⟨rfl,rfl⟩ (by kernel_rfl) rfl
  (fun f fn hf hfn=>by
   obtain rfl:f=3:=Option.some.inj ((show Tryz.prog.funcNamed "pith/pithlaw14.LzencRefused" =some 3 by kernel_rfl).symm.trans hf)|>.symm
   obtain rfl:fn=Tryz.f3:=(Option.some.inj (Tryz.func3.symm.trans hfn)).symm
   exact⟨by kernel_rfl,fun j t ht=>by
    rw [Tryz.params3]at ht
    have hm:t∈ [25,26]:=by simpa using Array.mem_of_getElem? ht
    have hall:([25,26].all fun u=> !Tryz.prog.wantsStandIn u)=true:=by kernel_rfl
    exact(show Tryz.prog.wantsStandIn t=false by simpa using List.all_eq_true.1 hall t hm)⟩)
  (by kernel_rfl)
end Go.Proofs.YthideplpcnhncaaGreatDoor.lzencRefused
namespace Go.Proofs.YthideplpcnhncaaGreatDoor
theorem lzencRefused_holds:Rows.LzencRefusedCardSaid:=lzencRefused.card
#print axioms lzencRefused_holds
end Go.Proofs.YthideplpcnhncaaGreatDoor
