/- ProbMoves holds: for every list of questions handed to the statement's function the call returns true and the argument reads afterwards as it did; no condition. -/
import Derived.Test.YtloenokbkmhceaaMoves
import Derived.ProofKit
import Derived.OpenShut
import Derived.ShutString
import Derived.ChangeOld
import Derived.SizedLaws
import Derived.Below
import Derived.Deep.Slices
namespace Go.Proofs.Ytloenokbkmhceaa.probMoves
open Go.ChangeShapes Go.WideShapes Go.ChangeAt Go.RowKit
set_option linter.unusedVariables false

theorem cellsA : Try.prog.cellsOf 39 = 3 := by kernel_rfl
theorem cells3 : Try.prog.cellsOf 3 = 1 := by kernel_rfl
theorem cellsU : Try.prog.cellsOf 22 = 1 := by kernel_rfl
theorem three_cells {cs : List Value} (h : cs.length = 3) : ∃ c0 c1 c2, cs = [c0, c1, c2] := by
  match cs, h with
  | [c0, c1, c2], _ => exact ⟨c0, c1, c2, rfl⟩

theorem open_ask {H : Type} {enc : TypeId × Value → H} {W : World} {fuel : Nat} {cs : List Value} {y : DataW H × List MemPlace}
    (hf : DataW.trod enc Try.prog W 0 (fun _ => true) true fuel 39 cs = some y) : ∃ p t r, cs = [.int .i64 p, .int .i64 t, .int .u32 r] ∧ I64 p ∧ U32 r := by
  obtain ⟨xs, n, _, rfl, hl, hlen, hx⟩ := DataW.trod_struct Try.underlying39 hf
  rw [cellsA] at hl
  obtain ⟨c0, c1, c2, rfl⟩ := three_cells hl
  have h0 : DataW.trod enc Try.prog W 0 (fun _ => true) true n 3 [c0] = xs[0]? := by have := hx 0 _ rfl; simpa [cells3] using this
  have h1 : DataW.trod enc Try.prog W 0 (fun _ => true) true n 3 [c1] = xs[1]? := by have := hx 1 _ rfl; simpa [cells3] using this
  have h2 : DataW.trod enc Try.prog W 0 (fun _ => true) true n 22 [c2] = xs[2]? := by have := hx 2 _ rfl; simpa [cellsU] using this
  have hs : xs.length = 3 := by simpa using hlen
  obtain ⟨y0, e0⟩ : ∃ y, xs[0]? = some y := ⟨xs[0], List.getElem?_eq_getElem (by omega)⟩
  obtain ⟨y1, e1⟩ : ∃ y, xs[1]? = some y := ⟨xs[1], List.getElem?_eq_getElem (by omega)⟩
  obtain ⟨y2, e2⟩ : ∃ y, xs[2]? = some y := ⟨xs[2], List.getElem?_eq_getElem (by omega)⟩
  rw [e0] at h0
  rw [e1] at h1
  rw [e2] at h2
  obtain ⟨p, ep, _, wp⟩ := DataW.trod_int Try.underlying3 h0
  obtain ⟨t, et, _, _⟩ := DataW.trod_int Try.underlying3 h1
  obtain ⟨r, er, _, wr⟩ := DataW.trod_int Try.underlying22 h2
  simp only [List.cons.injEq, and_true] at ep et er
  subst ep et er
  have b0 := bounds_i64 wp
  have b2 := bounds_u32 wr
  exact ⟨p, t, r, rfl, ⟨by omega, by omega⟩, ⟨by omega, by omega⟩⟩

theorem addadd (b off i j : Nat) : ((⟨b, off, none⟩ : Addr).add i).add j = ⟨b, off + i + j, none⟩ := by rw [addk, addk]

theorem open_asks {H : Type} {enc : TypeId × Value → H} {W : World} {a : Option Addr} {len cap : Nat} {d : DataW H} {p : List MemPlace}
    (h : DataW.Trod enc Try.prog W 0 (fun _ => true) true 37 (.slice a len cap) d p) : Asks W a len ∧ len ≤ 9223372036854775807 := by
  obtain ⟨fuel, hf⟩ := h
  rcases Deep.open_slice Try.underlying37 hf with ⟨hcs, _⟩ | ⟨x, len', cap', m, n, D, Pl, hcs, _, hl, hm, hmm, hx, hel⟩
  · simp [Value.cells] at hcs
    obtain ⟨rfl, rfl, rfl⟩ := hcs
    exact ⟨fun k hk => by omega, by omega⟩
  · simp [Value.cells] at hcs
    obtain ⟨rfl, rfl, rfl⟩ := hcs
    simp only [if_true] at hmm
    subst hmm
    refine ⟨fun k hk => ?_, by unfold maxLen at hm; omega⟩
    obtain ⟨cs', h1, h2⟩ := hel k (by omega)
    rw [cellsA] at h1
    obtain ⟨p, t, r, e, hp, hr⟩ := open_ask h2
    subst e
    have hc := (World.cells?_some h1).2.2
    obtain ⟨b, off, sp⟩ := x
    have g0 := hc 0 (by simp)
    have g1 := hc 1 (by simp)
    have g2 := hc 2 (by simp)
    have hs : sp = none := by
      obtain ⟨cs0, q1, q2⟩ := hel 0 (by omega)
      rw [cellsA] at q1
      obtain ⟨p0, t0, r0, e0, _, _⟩ := open_ask q2
      subst e0
      have q0 := (World.cells?_some q1).2.2 0 (by simp)
      simp [Addr.add] at q0
      exact World.cell?_spot q0
    subst hs
    rw [addadd] at g0 g1 g2
    exact ⟨b, off, rfl, p, t, r, by simpa using g0, by simpa using g1, by simpa using g2, hp, hr⟩

theorem own : ownKnob Try.prog.godebug = none := by kernel_rfl
theorem laidOut : laidOutB Try.prog = true := by kernel_rfl

set_option maxRecDepth 100000 in
theorem lifted (os : Os) (started : os.Started) (H : Type) (enc : TypeId × Value → H) :
    ReturnsInHanded {} Try.checked os 5 .any (Rows.probMovesSpec.pre6 enc Try.prog Try.f5 Rows.probMovesRow.domain false) (Rows.probMovesSpec.post enc Try.prog Try.f5 false true false false) := by
  refine returnsInHanded_of_change_sized (C := Try.checked) own started (by kernel_rfl) Try.func5
    (ChangeSpec.witness6 (enc := enc) (C := Try.checked) false ⟨#[], #[.slice none 0 0], []⟩ 8 (by kernel_rfl) (by kernel_rfl) (by kernel_rfl) (by kernel_rfl)) ?_
  intro W base args ds gs before hval0 hW hcnd hsz0 _
  have hsz : (DataW.weightsEach Try.prog (Try.f5.params.toList ++ Rows.probMovesSpec.plain.varTypes Try.prog) (ds ++ gs)).all (· ≤ reachBytes) = true := hsz0
  clear hsz0
  have hval : ∀ (j : Nat) t v, Try.f5.params[j]? = some t → args[j]? = some v → Value.okWide Try.prog W .any base t v := hval0
  have hW' := hW
  obtain ⟨p, q, hA0, hV, rfl, hfz, hnd⟩ := hW
  have hA : DataW.TrodAll enc Try.prog W 0 (fun _ => true) true Try.f5.params.toList args.toList ds p := hA0
  rw [Try.params5] at hA hval hsz
  obtain ⟨v0, vs0, d0, ds0, p0, q0, hargs, rfl, rfl, h0, r0⟩ := trodAll_cons hA
  obtain ⟨rfl, rfl, rfl⟩ := trodAll_nil r0
  obtain rfl : args = #[v0] := by cases args; simp_all
  obtain ⟨rfl, rfl⟩ := trodVars_none hV
  obtain ⟨a0, len0, cap0, rfl⟩ := okWide_slice Try.underlying37 (hval 0 37 v0 rfl rfl)
  have k0 := h0
  have lt0 : ∀ x ∈ p0, x.block < W.heap.size := by obtain ⟨m, hm⟩ := k0; exact DataW.trod_lt m _ _ _ hm
  obtain ⟨hb0, hn0⟩ := open_asks h0
  clear hA0 hval0
  refine (moves_any a0 len0 cap0 W hb0 hn0).mono fun e W' ⟨he, hCC⟩ => ?_
  subst he
  have bel := below_of hCC
  exact ⟨_, rfl, _, _, _, [], _, [], hW', trodAll_mk1 (shut_bool Try.underlying4 _), (trodAll_cons_mk (Below.trod laidOut (by kernel_rfl) (of_decide_eq_true (by kernel_rfl)) k0 bel lt0) trodAll_mk0), rfl, bel.frame _, fun h => by cases h⟩

theorem over : Rows.probMovesRow.holds Try.pinned (OpenSpec.ofChange Rows.probMovesSpec) :=
  OpenClaim.holds_of_wide 5 Try.f5 rfl rfl rfl rfl rfl rfl rfl ⟨rfl, rfl, rfl, rfl, rfl⟩ rfl rfl rfl rfl rfl (by kernel_rfl) Try.func5 (by kernel_rfl)
    (of_decide_eq_true (by kernel_rfl)) (by unfold Func.isWrapper; first | (rw [if_pos (by decide +kernel)]; kernel_rfl) | (rw [if_neg (by decide +kernel)]; exact ⟨rfl, rfl⟩))
    (fun os started H enc _ => lifted os started H enc)
end Go.Proofs.Ytloenokbkmhceaa.probMoves
namespace Go.Proofs.Ytloenokbkmhceaa
theorem probMoves_holds : Rows.ProbMovesSaid := probMoves.over
#print axioms probMoves_holds
end Go.Proofs.Ytloenokbkmhceaa
