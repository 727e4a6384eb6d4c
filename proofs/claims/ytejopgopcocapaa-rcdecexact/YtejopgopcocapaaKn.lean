/- The contract of the law's known; of no statement by itself. -/
import Derived.Test.YtejopgopcocapaaDe
namespace Go.Proofs.Ytejopgopcocapaa
open Go.RowKit
set_option linter.unusedVariables false

theorem row8_new8 (w : World) (xs : List Int) (t : TypeId) (m c : Nat) (hm : xs.length = m) : Row8 (w.alloc (.cells (xs.map (Value.int .u8)).toArray t)) (some ⟨w.heap.size, 0, none⟩) m c xs := by
  refine ⟨hm, .inr ⟨_, rfl, fun j u hu => ?_⟩⟩
  have hb : (w.alloc (.cells (xs.map (Value.int .u8)).toArray t)).heap[w.heap.size]? = some (.cells (xs.map (Value.int .u8)).toArray t (0, 0)) := heap_alloc_last _ _
  rw [addk]
  simp only [World.cell?, hb, Nat.zero_add]
  simpa using hu
theorem dig1 : Rc.Dig [0, 127, 255, 252, 0] := by unfold Rc.Dig; decide
theorem dig2 : Rc.Dig [0, 255, 255, 255, 254] := by unfold Rc.Dig; decide
theorem known_bit : decA [0, 127, 255, 252, 0] ⟨false, 0, 0, 0⟩ ⟨5, 4294967295, Rc.code5 [0, 127, 255, 252, 0]⟩ [1024] = .ok (1, ⟨5, 2147484671, 0⟩, [992]) := by rfl
theorem known_dir : decA [0, 255, 255, 255, 254] ⟨true, 0, 1, 0⟩ ⟨5, 4294967295, Rc.code5 [0, 255, 255, 255, 254]⟩ [] = .error 2 := by rfl

set_option maxHeartbeats 4000000 in
set_option maxRecDepth 100000 in
theorem known_any {Dec : World → Nat → Nat → Value → List Nat → Rc.D → Prop} (S : DecSpec Dec) (w0 : World) : Calls Try.prog 8 #[] w0 fun x w' => x = .returned (.bool true) ∧ Chg (fun _ => False) w0 w' := by
  have hr1 := row8_new8 w0 [0, 127, 255, 252, 0] 5 5 5 rfl
  have c0 := chg_one w0 (.cells #[.int .u8 0, .int .u8 127, .int .u8 255, .int .u8 252, .int .u8 0] 5)
  go_enter Try.func8, Try.ntmps8
  go_wp2_with fail
  refine (S.new _ 5 5 [0, 127, 255, 252, 0] _ hr1 dig1 (by omega)).mono ?_
  rintro z w1 (⟨h1, _⟩ | ⟨_, h1, _⟩ | ⟨_, _, _, a, v, rfl, hD1, c1⟩)
  · exact absurd h1 (by decide)
  · exact absurd h1 (by decide)
  have HD1 : Hid (Dec w1 w0.heap.size a v [0, 127, 255, 252, 0] ⟨5, 4294967295, Rc.code5 [0, 127, 255, 252, 0]⟩) := S.down hD1 c0.size
  have HC1 : Hid (Chg (fun _ => False) w0 w1) := chg_then c0 c1
  clear hr1 c0 c1 hD1
  go_wp2_with fail
  refine (new_in 1 _ (by omega)).mono ?_
  rintro z w2 ⟨s, u, rfl, hs, hS2, c2⟩
  have HD2 : Hid (Dec w2 w0.heap.size a v [0, 127, 255, 252, 0] ⟨5, 4294967295, Rc.code5 [0, 127, 255, 252, 0]⟩) := S.keep HD1.out c2 (fun f => f) (fun _ _ f => f)
  have HS2 : Hid (St w2 w0.heap.size s u [1024]) := ⟨Nat.le_trans HC1.out.size hs, hS2.blk, owns_base hS2.own HC1.out.size⟩
  have HC2 : Hid (Chg (fun _ => False) w0 w2) := chg_then HC1.out c2
  clear hS2 c2 HD1 HC1 hs
  go_wp2_with fail
  refine (num_any _ _).mono ?_
  rintro z w3 ⟨rfl, rfl⟩
  go_wp2_with fail
  refine (num_any _ _).mono ?_
  rintro z w3 ⟨rfl, rfl⟩
  go_wp2_with fail
  refine (S.bit _ _ a s v u _ _ [1024] 0 _ HD2.out ⟨by decide, by decide, by decide, by decide⟩ dig1 (by decide) HS2.out (In31.half 1) HC2.out.size).mono ?_
  rintro z w3 (⟨e, he, _⟩ | ⟨b, d', xs', he, rfl, hD3, hS3, c3⟩)
  · rw [known_bit] at he
    cases he
  rw [known_bit] at he
  simp only [Except.ok.injEq, Prod.mk.injEq] at he
  obtain ⟨rfl, rfl, rfl⟩ := he
  have HD3 : Hid (Dec w3 w0.heap.size a v [0, 127, 255, 252, 0] ⟨5, 2147484671, 0⟩) := hD3
  have HC3 : Hid (Chg (fun _ => False) w0 w3) := HC2.out.trans c3 (fun z f => .inr (by
    rcases f with f | f
    · rw [f]; exact S.base HD2.out
    · exact (HS2.out.own.lt z f).1))
  clear hD3 hS3 c3 HD2 HS2 HC2
  have hr4 := row8_new8 w3 [0, 255, 255, 255, 254] 5 5 5 rfl
  have c4 := chg_one w3 (.cells #[.int .u8 0, .int .u8 255, .int .u8 255, .int .u8 255, .int .u8 254] 5)
  go_wp2_with fail
  refine (S.new _ 5 5 [0, 255, 255, 255, 254] _ hr4 dig2 (by omega)).mono ?_
  rintro z w5 (⟨h1, _⟩ | ⟨_, h1, _⟩ | ⟨_, _, _, o, y, rfl, hD5, c5⟩)
  · exact absurd h1 (by decide)
  · exact absurd h1 (by decide)
  have HO5 : Hid (Dec w5 w3.heap.size o y [0, 255, 255, 255, 254] ⟨5, 4294967295, Rc.code5 [0, 255, 255, 255, 254]⟩) := S.down hD5 c4.size
  have HD5 : Hid (Dec w5 w0.heap.size a v [0, 127, 255, 252, 0] ⟨5, 2147484671, 0⟩) := S.keep HD3.out (chg_then c4 c5) (fun f => f) (fun _ _ f => f)
  have HC5 : Hid (Chg (fun _ => False) w0 w5) := chg_then HC3.out (chg_then c4 c5)
  have HAL : Hid (a < w3.heap.size ∧ ∀ g, v.ownBlock = some g → g < w3.heap.size) := ⟨by obtain ⟨cs, hb⟩ := S.blk HD3.out; exact lt_of_blk hb, fun g eg => ((S.own HD3.out).lt g eg).2⟩
  have HB5 : Hid (w3.heap.size ≤ w5.heap.size) := (chg_then c4 c5).size
  clear hr4 c4 c5 hD5 HD3
  go_wp2_with fail
  refine (num_any _ _).mono ?_
  rintro z w6 ⟨rfl, rfl⟩
  go_wp2_with fail
  refine (S.dir _ o y _ _ 1 _ HO5.out ⟨by decide, by decide, by decide, by decide⟩ dig2 (by decide) HB5.out).mono ?_
  rintro z w6 (⟨e, he, _, rfl, hO6, c6⟩ | ⟨b, d', he, _⟩)
  rotate_left
  · rw [known_dir] at he
    cases he
  rw [known_dir] at he
  simp only [Except.error.injEq] at he
  subst he
  have HO6 : Hid (Dec w6 w3.heap.size o y [0, 255, 255, 255, 254] ⟨5, 4294967295, Rc.code5 [0, 255, 255, 255, 254]⟩) := hO6
  have hob := S.base HO5.out
  have HD6 : Hid (Dec w6 w0.heap.size a v [0, 127, 255, 252, 0] ⟨5, 2147484671, 0⟩) := S.keep HD5.out c6 (fun f => by have := HAL.out.1; omega) (fun g eg f => by have := HAL.out.2 g eg; omega)
  have HC6 : Hid (Chg (fun _ => False) w0 w6) := HC5.out.trans c6 (fun z f => .inr (by have := HC3.out.size; omega))
  clear hO6 c6 hob HO5 HD5 HC5 HB5 HAL HC3
  go_wp2_with fail
  refine (num_any _ _).mono ?_
  rintro z w7 ⟨rfl, rfl⟩
  go_wp2_with fail
  refine (S.used _ a v _ _ _ HD6.out).mono ?_
  rintro z w7 ⟨rfl, c7⟩
  have HD7 : Hid _ := S.keep HD6.out c7 (fun f => f) (fun _ _ f => f)
  have HO7 : Hid _ := S.keep HO6.out c7 (fun f => f) (fun _ _ f => f)
  have HC7 : Hid (Chg (fun _ => False) w0 w7) := chg_then HC6.out c7
  clear c7 HD6 HO6 HC6
  go_wp2_with fail
  refine (S.done _ a v _ _ _ HD7.out).mono ?_
  rintro z w8 ⟨rfl, c8⟩
  have HO8 : Hid _ := S.keep HO7.out c8 (fun f => f) (fun _ _ f => f)
  have HC8 : Hid (Chg (fun _ => False) w0 w8) := chg_then HC7.out c8
  have hdn : decide ((5 : Nat) = [0, 127, 255, 252, 0].length ∧ (0 : Nat) = 0) = true := by decide
  clear c8 HD7 HO7 HC7
  go_wp2_with fail
  refine (num_any _ _).mono ?_
  rintro z w9 ⟨rfl, rfl⟩
  go_wp2_with fail
  refine (S.used _ o y _ _ _ HO8.out).mono ?_
  rintro z w9 ⟨rfl, c9⟩
  have HC9 : Hid (Chg (fun _ => False) w0 w9) := chg_then HC8.out c9
  clear c9 HO8 HC8
  go_wp2
  go_ret
  exact ⟨rfl, HC9.out⟩
end Go.Proofs.Ytejopgopcocapaa
