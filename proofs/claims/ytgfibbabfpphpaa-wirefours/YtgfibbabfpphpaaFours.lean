/- WireFours holds: for every int handed to the statement's function the call returns true and the argument reads afterwards as it did; no condition. -/
import Derived.Test.YtgfibbabfpphpaaZeros
import Derived.WalkKit
import Derived.ProofKit
import Derived.OpenShut
import Derived.ShutString
import Derived.ChangeOld
import Derived.Below
namespace Go.Proofs.Ytgfibbabfpphpaa.wireFours
open Go.ChangeShapes Go.WideShapes Go.ChangeAt Go.RowKit
open Go.ChangeMaps (open_string shut_string)
set_option linter.unusedVariables false

theorem own : ownKnob Try.prog.godebug = none := by kernel_rfl


/-- Ahead of the tests: the writer with its two bytes. -/
theorem bel1 {w w2 : World} {v2 : Value} (hc : Chg (Foot w.heap.size (.slice none 0 0)) (w.alloc (.cells #[.int .i64 0, .slice none 0 0] 75)) w2) : Below w.heap.size w w2 :=
  ((Chg.refl (fun _ => False) w).alloc _).below (Nat.le_refl _) (fun _ f => f.elim) |>.trans (hc.below (by simp) (fun k f => by
    rcases f with rfl | f
    · exact Nat.le_refl _
    · simp [Value.ownBlock] at f))

set_option maxHeartbeats 1000000 in
theorem walk_neg (a0 : Int) (w : World) (h0 : a0 < 0) (h1 : -9223372036854775808 ≤ a0) :
    Calls Try.prog 4 #[.int .i64 a0] w fun e w' => e = .returned (.bool true) ∧ Below w.heap.size w w' := by
  go_enter Try.func4, Try.ntmps4
  go_wp2_with fail
  refine (newWriter_any _).mono ?_
  rintro e w1 ⟨rfl, rfl⟩
  have hw := newWr (w := w)
  go_wp2_with fail
  refine (low_i _ _ _ _ _ _ _ hw (by simp) (by omega) (by omega) (by simp)).mono ?_
  rintro e w2 ⟨rfl, v2, hw2, hc2, -⟩
  have HB := bel1 (v2 := v2) hc2
  clear hc2 hw
  go_wp2_with fail
  refine (zeros_no _ _ _ (.inl h0)).mono ?_
  rintro e w3 ⟨rfl, rfl⟩
  go_wp2_with fail
  refine (len_i _ _ _ _ 2 _ hw2 (by simp [lowBytes_length])).mono ?_
  rintro e w3 ⟨rfl, rfl⟩
  go_wp2_with fail
  refine (pad_neg _ _ h0).mono ?_
  rintro e w3 ⟨rfl, rfl⟩
  go_wp2_with fail
  refine (pad_pos _ _ (by omega) (by omega)).mono ?_
  rintro e w3 ⟨rfl, rfl⟩
  go_wp2
  go_ret
  exact ⟨rfl, HB⟩

theorem pad_facts (n : Int) (h : 0 ≤ n) : ∃ k : Int, (4 - n % 4) % 4 = k ∧ 0 ≤ k ∧ k < 4 ∧ (n % 4 + k) % 4 = 0 := ⟨_, rfl, by omega, by omega, by omega⟩

theorem pad_i (n k : Int) (w : World) (h : 0 ≤ n) (h2 : n ≤ 9223372036854775807) (hk : (4 - n % 4) % 4 = k) : Calls Try.prog 18 #[.int .i64 n] w fun e w' => e = .returned (.int .i64 k) ∧ w = w' := by
  subst hk
  exact pad_pos n w h h2

set_option maxHeartbeats 1000000 in
theorem walk_big (a0 : Int) (w : World) (h0 : 65536 < a0) (h1 : a0 ≤ 9223372036854775807) :
    Calls Try.prog 4 #[.int .i64 a0] w fun e w' => e = .returned (.bool true) ∧ Below w.heap.size w w' := by
  have hp : 0 ≤ a0 := by omega
  obtain ⟨k, hk0, hk1, hk2, hk3⟩ := pad_facts a0 hp
  have HK : Hid ((4 - a0 % 4) % 4 = k) := hk0
  have hk4 : (a0 + k) % 4 = 0 := by omega
  clear hk0 hk3
  go_enter Try.func4, Try.ntmps4
  go_wp2_with fail
  refine (newWriter_any _).mono ?_
  rintro e w1 ⟨rfl, rfl⟩
  have hw := newWr (w := w)
  go_wp2_with fail
  refine (low_i _ _ _ _ _ _ _ hw (by simp) (by omega) (by omega) (by simp)).mono ?_
  rintro e w2 ⟨rfl, v2, hw2, hc2, -⟩
  have HB := bel1 (v2 := v2) hc2
  clear hc2 hw
  go_wp2_with fail
  refine (zeros_no _ _ _ (.inr h0)).mono ?_
  rintro e w3 ⟨rfl, rfl⟩
  go_wp2_with fail
  refine (len_i _ _ _ _ 2 _ hw2 (by simp [lowBytes_length])).mono ?_
  rintro e w3 ⟨rfl, rfl⟩
  go_wp2_with fail
  refine (pad_i _ k _ hp h1 HK.out).mono ?_
  rintro e w3 ⟨rfl, rfl⟩
  go_wp2_with fail
  refine (pad_pos _ _ (by omega) (by omega)).mono ?_
  rintro e w3 ⟨rfl, rfl⟩
  go_wp2
  go_ret
  exact ⟨rfl, HB⟩

set_option maxHeartbeats 1000000 in
theorem walk_fit (a0 : Int) (w : World) (hp : 0 ≤ a0) (h1 : a0 ≤ 65536) :
    Calls Try.prog 4 #[.int .i64 a0] w fun e w' => e = .returned (.bool true) ∧ Below w.heap.size w w' := by
  obtain ⟨k, hk0, hk1, hk2, hk3⟩ := pad_facts a0 hp
  have HK : Hid ((4 - a0 % 4) % 4 = k) := hk0
  have hk4 : (a0 + k) % 4 = 0 := by omega
  have hd : decide (65536 < a0) = false := by simp; omega
  clear hk0 hk3
  go_enter Try.func4, Try.ntmps4
  go_wp2_with fail
  refine (newWriter_any _).mono ?_
  rintro e w1 ⟨rfl, rfl⟩
  have hw := newWr (w := w)
  go_wp2_with fail
  refine (low_i _ _ _ _ _ _ _ hw (by simp) (by omega) (by omega) (by simp)).mono ?_
  rintro e w2 ⟨rfl, v2, hw2, hc2, -⟩
  have HB := bel1 (v2 := v2) hc2
  have hB2 : w.heap.size ≤ w2.heap.size := HB.size
  clear hc2 hw
  go_wp2_with fail
  refine (zeros_i _ _ _ _ _ _ hw2 hB2 hp h1 (by simp [lowBytes_length])).mono ?_
  rintro e w3 ⟨rfl, v3, hw3, hc3, -⟩
  have HB3 : Below w.heap.size w w3 := HB.trans (hc3.below hB2 (fun k f => (hw2.foot k f).1))
  have hl : (([] ++ lowBytes 5 (Int.toNat 2) ++ List.replicate a0.toNat (0 : Int)).length : Int) = 2 + a0 := by simp [lowBytes_length]; omega
  have HL : Hid ((([] ++ lowBytes 5 (Int.toNat 2) ++ List.replicate a0.toNat (0 : Int)).length : Int) = 2 + a0) := hl
  clear hc3 hw2 HB hl
  go_wp2_with fail
  refine (len_i _ _ _ _ (2 + a0) _ hw3 HL.out).mono ?_
  rintro e w4 ⟨rfl, rfl⟩
  go_wp2_with fail
  refine (pad_i _ k _ hp (by omega) HK.out).mono ?_
  rintro e w4 ⟨rfl, rfl⟩
  go_wp2_with fail
  refine (pad_pos _ _ (by omega) (by omega)).mono ?_
  rintro e w4 ⟨rfl, rfl⟩
  go_wp2
  go_ret
  exact ⟨rfl, HB3⟩

theorem walk (a0 : Int) (w0 : (Lit.int .i64 a0).wf = true) (w : World) :
    Calls Try.prog 4 #[.int .i64 a0] w fun e w' => e = .returned (.bool true) ∧ Below w.heap.size w w' := by
  have hb : -9223372036854775808 ≤ a0 ∧ a0 ≤ 9223372036854775807 := by simpa using bounds_i64 w0
  by_cases h0 : a0 < 0
  · exact walk_neg a0 w h0 hb.1
  · by_cases h1 : 65536 < a0
    · exact walk_big a0 w h1 hb.2
    · exact walk_fit a0 w (by omega) (by omega)

set_option maxRecDepth 100000 in
theorem lifted (os : Os) (started : os.Started) (H : Type) (enc : TypeId × Value → H) :
    ReturnsInHanded {} Try.checked os 4 .any (Rows.wireFoursSpec.pre6 enc Try.prog Try.f4 Rows.wireFoursRow.domain false) (Rows.wireFoursSpec.post enc Try.prog Try.f4 false true false false) := by
  refine returnsInHanded_of_change (C := Try.checked) own started (by kernel_rfl) Try.func4
    (ChangeSpec.witness6 (enc := enc) (C := Try.checked) false ⟨#[], #[.int .i64 0], []⟩ 8 (by kernel_rfl) (by kernel_rfl) (by kernel_rfl) (by kernel_rfl)) ?_
  intro W base args ds gs before hval0 hW hcnd _
  have hval : ∀ (j : Nat) t v, Try.f4.params[j]? = some t → args[j]? = some v → Value.okWide Try.prog W .any base t v := hval0
  have hW' := hW
  obtain ⟨p, q, hA0, hV, rfl, hfz, hnd⟩ := hW
  have hA : DataW.TrodAll enc Try.prog W 0 (fun _ => true) true Try.f4.params.toList args.toList ds p := hA0
  rw [Try.params4] at hA hval
  obtain ⟨v0, vs0, d0, ds0, p0, q0, hargs, rfl, rfl, h0, r0⟩ := trodAll_cons hA
  obtain ⟨rfl, rfl, rfl⟩ := trodAll_nil r0
  obtain rfl : args = #[v0] := by cases args; simp_all
  obtain ⟨rfl, rfl⟩ := trodVars_none hV
  obtain ⟨a0, rfl, rfl, rfl, w0⟩ := open_int Try.underlying3 (hval 0 3 v0 rfl rfl) h0
  clear hA0 hval0
  simp only [List.append_nil] at hW'
  refine (walk a0 w0 W).mono fun e W' ⟨he, bel⟩ => ?_
  subst he
  exact ⟨_, rfl, _, _, _, [], _, [], hW', trodAll_mk1 (shut_bool Try.underlying4 _), (trodAll_cons_mk (shut_int Try.underlying3 w0) trodAll_mk0), rfl, bel.frame _, fun h => by cases h⟩

theorem over : Rows.wireFoursRow.holds Try.pinned (OpenSpec.ofChange Rows.wireFoursSpec) :=
  OpenClaim.holds_of_wide 4 Try.f4 rfl rfl rfl rfl rfl rfl rfl ⟨rfl, rfl, rfl, rfl, rfl⟩ rfl rfl rfl rfl rfl (by kernel_rfl) Try.func4 (by kernel_rfl)
    (of_decide_eq_true (by kernel_rfl)) (by unfold Func.isWrapper; first | (rw [if_pos (by decide +kernel)]; kernel_rfl) | (rw [if_neg (by decide +kernel)]; exact ⟨rfl, rfl⟩))
    (fun os started H enc _ => lifted os started H enc)

theorem proved : Rows.WireFoursSaid := over
end Go.Proofs.Ytgfibbabfpphpaa.wireFours
namespace Go.Proofs.Ytgfibbabfpphpaa
theorem wireFours_holds : Rows.WireFoursSaid := wireFours.proved
#print axioms wireFours_holds
end Go.Proofs.Ytgfibbabfpphpaa
