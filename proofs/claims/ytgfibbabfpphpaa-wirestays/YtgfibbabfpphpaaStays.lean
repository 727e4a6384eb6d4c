/- WireStays holds: for every list of bytes and every two ints handed to the statement's function the call returns true and the arguments read afterwards as they did; no condition. -/
import Derived.Test.YtgfibbabfpphpaaStaysA
import Derived.Test.YtgfibbabfpphpaaStaysB
import Derived.Test.YtgfibbabfpphpaaStaysC
import Derived.Test.YtgfibbabfpphpaaOpen
namespace Go.Proofs.Ytgfibbabfpphpaa.wireStays
open Go.ChangeShapes Go.WideShapes Go.ChangeAt Go.RowKit
open Go.ChangeMaps (open_string shut_string)
set_option linter.unusedVariables false

theorem own : ownKnob Try.prog.godebug = none := by kernel_rfl
theorem laidOut : laidOutB Try.prog = true := by kernel_rfl

theorem walk (a0 : Option Addr) (len cap : Nat) (xs : List Int) (a1 a2 : Int) (w : World) (hx : Row8 w a0 len cap xs) (hx8 : Bytes8 xs) (hl : len ≤ cap) (hcap : cap ≤ 140737488351232) :
    Calls Try.prog 3 #[.slice a0 len cap, .int .i64 a1, .int .i64 a2] w fun e w' => e = .returned (.bool true) ∧ Below w.heap.size w w' := by
  obtain ⟨r, hrl, hsel⟩ : ∃ r : Nat, r ≤ len ∧ (a1 = (r : Int) ∨ a1 < 0 ∧ r = len ∨ (len : Int) < a1 ∧ r = len) := by
    by_cases h0 : a1 < 0
    · exact ⟨len, Nat.le_refl _, .inr (.inl ⟨h0, rfl⟩)⟩
    · by_cases h1 : (len : Int) < a1
      · exact ⟨len, Nat.le_refl _, .inr (.inr ⟨h1, rfl⟩)⟩
      · exact ⟨a1.toNat, by omega, .inl (by omega)⟩
  by_cases hn : a2 < 0
  · exact walk_neg a0 len cap r xs a1 a2 w hx hl hcap hrl hsel hn
  · by_cases hb : (len : Int) - r < a2
    · exact walk_big a0 len cap r xs a1 a2 w hx hl hcap hrl hsel (by omega) hb
    · obtain ⟨n, rfl⟩ := Int.eq_ofNat_of_zero_le (show 0 ≤ a2 by omega)
      by_cases hz : ∀ k, k < n → ((xs.drop r).take n).getD k 0 = 0
      · exact walk_zero a0 len cap r xs a1 n w hx hl hcap hrl hsel (by omega) _ rfl hz
      · obtain ⟨j, hj, hjz, hj0⟩ := first_not n (fun k => ((xs.drop r).take n).getD k 0 = 0) hz
        exact walk_bad a0 len cap r xs a1 n w hx hl hcap hrl hsel (by omega) _ rfl (hx8.cut r n) j _ hj hj0 rfl (by simpa using hjz)

set_option maxRecDepth 100000 in
theorem lifted (os : Os) (started : os.Started) (H : Type) (enc : TypeId × Value → H) :
    ReturnsInHanded {} Try.checked os 3 .any (Rows.wireStaysSpec.pre6 enc Try.prog Try.f3 Rows.wireStaysRow.domain false) (Rows.wireStaysSpec.post enc Try.prog Try.f3 false true false false) := by
  refine returnsInHanded_of_change_sized (C := Try.checked) own started (by kernel_rfl) Try.func3
    (ChangeSpec.witness6 (enc := enc) (C := Try.checked) false ⟨#[], #[.slice none 0 0, .int .i64 0, .int .i64 0], []⟩ 8 (by kernel_rfl) (by kernel_rfl) (by kernel_rfl) (by kernel_rfl)) ?_
  intro W base args ds gs before hval0 hW hcnd hsz0 _
  have hsz : (DataW.weightsEach Try.prog (Try.f3.params.toList ++ Rows.wireStaysSpec.plain.varTypes Try.prog) (ds ++ gs)).all (· ≤ reachBytes) = true := hsz0
  clear hsz0
  have hval : ∀ (j : Nat) t v, Try.f3.params[j]? = some t → args[j]? = some v → Value.okWide Try.prog W .any base t v := hval0
  have hW' := hW
  obtain ⟨p, q, hA0, hV, rfl, hfz, hnd⟩ := hW
  have hA : DataW.TrodAll enc Try.prog W 0 (fun _ => true) true Try.f3.params.toList args.toList ds p := hA0
  rw [Try.params3] at hA hval hsz
  obtain ⟨v0, vs0, d0, ds0, p0, q0, hargs, rfl, rfl, h0, r0⟩ := trodAll_cons hA
  obtain ⟨v1, vs1, d1, ds1, p1, q1, rfl, rfl, rfl, h1, r1⟩ := trodAll_cons r0
  obtain ⟨v2, vs2, d2, ds2, p2, q2, rfl, rfl, rfl, h2, r2⟩ := trodAll_cons r1
  obtain ⟨rfl, rfl, rfl⟩ := trodAll_nil r2
  obtain rfl : args = #[v0, v1, v2] := by cases args; simp_all
  obtain ⟨rfl, rfl⟩ := trodVars_none hV
  obtain ⟨a0, len0, cap0, rfl⟩ := okWide_slice Try.underlying22 (hval 0 22 v0 rfl rfl)
  have k0 := h0
  have lt0 : ∀ x ∈ p0, x.block < W.heap.size := by obtain ⟨m, hm⟩ := k0; exact DataW.trod_lt m _ _ _ hm
  obtain ⟨xs, hx, hx8, hl, hcap⟩ := open8 h0 (fun elems spare e => by subst e; exact sized_slice hsz (j := 0) (t := 22) (e := 5) rfl rfl Try.underlying22)
  obtain ⟨a1, rfl, rfl, rfl, w1⟩ := open_int Try.underlying3 (hval 1 3 v1 rfl rfl) h1
  obtain ⟨a2, rfl, rfl, rfl, w2⟩ := open_int Try.underlying3 (hval 2 3 v2 rfl rfl) h2
  clear hA0 hval0
  refine (walk a0 len0 cap0 xs a1 a2 W hx hx8 hl hcap).mono fun e W' ⟨he, bel⟩ => ?_
  subst he
  exact ⟨_, rfl, _, _, _, [], _, [], hW', trodAll_mk1 (shut_bool Try.underlying4 _), (trodAll_cons_mk (Below.trod laidOut (by kernel_rfl) (of_decide_eq_true (by kernel_rfl)) k0 bel lt0) (trodAll_cons_mk (shut_int Try.underlying3 w1) (trodAll_cons_mk (shut_int Try.underlying3 w2) trodAll_mk0))), rfl, bel.frame _, fun h => by cases h⟩

theorem over : Rows.wireStaysRow.holds Try.pinned (OpenSpec.ofChange Rows.wireStaysSpec) :=
  OpenClaim.holds_of_wide 3 Try.f3 rfl rfl rfl rfl rfl rfl rfl ⟨rfl, rfl, rfl, rfl, rfl⟩ rfl rfl rfl rfl rfl (by kernel_rfl) Try.func3 (by kernel_rfl)
    (of_decide_eq_true (by kernel_rfl)) (by unfold Func.isWrapper; first | (rw [if_pos (by decide +kernel)]; kernel_rfl) | (rw [if_neg (by decide +kernel)]; exact ⟨rfl, rfl⟩))
    (fun os started H enc _ => lifted os started H enc)

theorem proved : Rows.WireStaysSaid := over
end Go.Proofs.Ytgfibbabfpphpaa.wireStays
namespace Go.Proofs.Ytgfibbabfpphpaa
theorem wireStays_holds : Rows.WireStaysSaid := wireStays.proved
#print axioms wireStays_holds
end Go.Proofs.Ytgfibbabfpphpaa
