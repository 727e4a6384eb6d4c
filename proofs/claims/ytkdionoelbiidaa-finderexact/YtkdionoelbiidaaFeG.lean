/- FinderExact holds, with no condition: for every list of bytes, every number and every script handed to it the call returns true and the arguments read afterwards as they did. -/
import Derived.Test.YtkdionoelbiidaaLk
import Derived.Test.YtkdionoelbiidaaFl
import Derived.Test.YtkdionoelbiidaaOpenFs
import Derived.Test.YtkdionoelbiidaaOpenF
import Derived.WalkKit
import Derived.JoinedCond
namespace Go.Proofs.Ytkdionoelbiidaa.finderExact
open Go.ChangeShapes Go.WideShapes Go.ChangeAt Go.RowKit
set_option linter.unusedVariables false

theorem exact_any {Γ : Type} {le : Γ → Γ → Prop} {foot : Γ → Nat → Prop} {mp : Γ → Nat} {Fin : Γ → World → Nat → Nat → List Nat → Nat → Nat → Prop} {Sq : World → Value → (Nat → Prop) → Nat → Int → Prop} (S : FinSpec le foot mp Fin Sq) (ad : Option Addr) (L c : Nat) (d : List Nat) (dict : Int) (sa : Option Addr) (Z sc : Nat) (script : List (Int × Int × Int)) (w0 : World) (hr : Row8 w0 ad L c (nums d)) (hdig : Rc.Dig d) (hL : L ≤ 140737488351232) (hst : StL w0 sa script) (hZ : script.length = Z) (hZ9 : Z ≤ 9223372036854775807) : Calls Try.prog 7 #[.slice ad L c, .int .i64 dict, .slice sa Z sc] w0 fun e w' => e = .returned (.bool true) ∧ Chg (fun _ => False) w0 w' := by
  by_cases h : dict < 1 ∨ 4294967295 < dict
  · exact exact_out S ad L c d dict sa Z sc w0 hr hL h
  · obtain ⟨n, rfl⟩ : ∃ n : Nat, (n : Int) = dict := ⟨dict.toNat, by omega⟩
    exact exact_in S ad L c d n sa Z sc script w0 hr hdig hL (by omega) (by omega) hst hZ hZ9
theorem own : ownKnob Try.prog.godebug = none := by kernel_rfl
theorem laidOut : laidOutB Try.prog = true := by kernel_rfl
set_option maxRecDepth 100000 in
theorem lifted (os : Os) (started : os.Started) (H : Type) (enc : TypeId × Value → H) :
    ReturnsInHanded {} Try.checked os 7 .any (Rows.finderExactSpec.pre6 enc Try.prog Try.f7 Rows.finderExactRow.domain false) (Rows.finderExactSpec.post enc Try.prog Try.f7 false true false false) := by
  refine returnsInHanded_of_change_sized (C := Try.checked) own started (by kernel_rfl) Try.func7
    (ChangeSpec.witness6 (enc := enc) (C := Try.checked) false ⟨#[], #[.slice none 0 0, .int .i64 0, .slice none 0 0], []⟩ 8 (by kernel_rfl) (by kernel_rfl) (by kernel_rfl) (by kernel_rfl)) ?_
  intro W base args ds gs before hval0 hW hcnd hsz0 _
  have hsz : (DataW.weightsEach Try.prog (Try.f7.params.toList ++ Rows.finderExactSpec.plain.varTypes Try.prog) (ds ++ gs)).all (· ≤ reachBytes) = true := hsz0
  clear hsz0
  have hval : ∀ (j : Nat) t v, Try.f7.params[j]? = some t → args[j]? = some v → Value.okWide Try.prog W .any base t v := hval0
  have hW' := hW
  obtain ⟨p, q, hA0, hV, rfl, hfz, hnd⟩ := hW
  have hA : DataW.TrodAll enc Try.prog W 0 (fun _ => true) true Try.f7.params.toList args.toList ds p := hA0
  rw [Try.params7] at hA hval hsz
  obtain ⟨v0, vs0, d0, ds0, p0, q0, hargs, rfl, rfl, h0, r0⟩ := trodAll_cons hA
  obtain ⟨v1, vs1, d1, ds1, p1, q1, rfl, rfl, rfl, h1, r1⟩ := trodAll_cons r0
  obtain ⟨v2, vs2, d2, ds2, p2, q2, rfl, rfl, rfl, h2, r2⟩ := trodAll_cons r1
  obtain ⟨rfl, rfl, rfl⟩ := trodAll_nil r2
  obtain rfl : args = #[v0, v1, v2] := by cases args; simp_all
  obtain ⟨rfl, rfl⟩ := trodVars_none hV
  obtain ⟨a0, len0, cap0, rfl⟩ := okWide_slice Try.underlying22 (hval 0 22 v0 rfl rfl)
  have k0 := h0
  have lt0 : ∀ x ∈ p0, x.block < W.heap.size := by obtain ⟨m, hm⟩ := k0; exact DataW.trod_lt m _ _ _ hm
  obtain ⟨bs0, hb0, hd0, hc0, hz0, hN0⟩ := open_bytes8 h0
  have hn0 := hN0 140737488351232 (fun elems spare e => by subst e; have h9 := sized_slice hsz (j := 0) (t := 22) (e := 5) rfl rfl Try.underlying22; rw [bytesY] at h9; unfold reachBytes at h9; omega)
  obtain ⟨a1, rfl, rfl, rfl, w1⟩ := open_int Try.underlying3 (hval 1 3 v1 rfl rfl) h1
  have i1 : I64 a1 := ⟨(bounds_i64 w1).1, (bounds_i64 w1).2⟩
  obtain ⟨a2, len2, cap2, rfl⟩ := okWide_slice Try.underlying45 (hval 2 45 v2 rfl rfl)
  have k2 := h2
  have lt2 : ∀ x ∈ p2, x.block < W.heap.size := by obtain ⟨m, hm⟩ := k2; exact DataW.trod_lt m _ _ _ hm
  obtain ⟨l2, hb2, hl2, hN2⟩ := open_stepsL h2
  have hn2 := hN2 5864062014634 (fun elems spare e => by subst e; have h9 := sized_slice hsz (j := 2) (t := 45) (e := 50) rfl rfl Try.underlying45; rw [bytesSt] at h9; unfold reachBytes at h9; omega)
  clear hA0 hval0
  refine (exact_any fin_whole a0 len0 cap0 bs0 a1 a2 len2 cap2 l2 W hb0 hd0 (by omega) hb2 hl2 (by omega)).mono fun e W' ⟨he, hCC⟩ => ?_
  subst he
  have bel := below_of hCC
  exact ⟨_, rfl, _, _, _, [], _, [], hW', trodAll_mk1 (shut_bool Try.underlying4 _), (trodAll_cons_mk (Below.trod laidOut (by kernel_rfl) (of_decide_eq_true (by kernel_rfl)) k0 bel lt0) (trodAll_cons_mk (shut_int Try.underlying3 w1) (trodAll_cons_mk (Below.trod laidOut (by kernel_rfl) (of_decide_eq_true (by kernel_rfl)) k2 bel lt2) trodAll_mk0))), rfl, bel.frame _, fun h => by cases h⟩

theorem over : Rows.finderExactRow.holds Try.pinned (OpenSpec.ofChange Rows.finderExactSpec) :=
  OpenClaim.holds_of_wide 7 Try.f7 rfl rfl rfl rfl rfl rfl rfl ⟨rfl, rfl, rfl, rfl, rfl⟩ rfl rfl rfl rfl rfl (by kernel_rfl) Try.func7 (by kernel_rfl)
    (of_decide_eq_true (by kernel_rfl)) (by unfold Func.isWrapper; first | (rw [if_pos (by decide +kernel)]; kernel_rfl) | (rw [if_neg (by decide +kernel)]; exact ⟨rfl, rfl⟩))
    (fun os started H enc _ => lifted os started H enc)
end Go.Proofs.Ytkdionoelbiidaa.finderExact
namespace Go.Proofs.Ytkdionoelbiidaa
theorem finderExact_holds : Rows.FinderExactSaid := finderExact.over
#print axioms finderExact_holds
end Go.Proofs.Ytkdionoelbiidaa
