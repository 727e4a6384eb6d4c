/- A row whose bytes the document tells; the law's sizes; of no statement by itself. -/
import Derived.Test.YtlnocjicmofjfaaDoorYv
namespace Go.Proofs.YtlnocjicmofjfaaDoor
open Go.RowKit
open St12 Sy13
set_option linter.unusedVariables false
set_option linter.unusedSimpArgs false

variable {Win : World → Nat → Nat → Value → Nat → List Nat → Prop} {Tab : World → Prop}
def knownL : List Sym := [⟨1, 97, 0, 0⟩, ⟨1, 98, 0, 0⟩, ⟨2, 0, 5, 2⟩, ⟨4, 0, 0, 0⟩, ⟨1, 120, 0, 0⟩, ⟨3, 0, 2, 0⟩]
theorem known_exp : expandA 10 knownL = ([97, 98, 97, 98, 97, 98, 97, 98, 120, 98, 120], 6, 0) := by decide +kernel
/-- New memory with symbols. -/
theorem symL_alloc (w : World) (l : List Sym) (hI : ∀ y ∈ l, y.I) (t : TypeId) : SymL (w.alloc (.cells (symcs l).toArray t)) (some ⟨w.heap.size, 0, none⟩) l := fun k y hk => by
  refine ⟨hI y (List.mem_of_getElem? hk), w.heap.size, 0, rfl, ?_⟩
  have hat := symcs_at l k y hk
  have hce : ∀ j, j < 4 → (w.alloc (.cells (symcs l).toArray t)).cell? ⟨w.heap.size, k * 4 + j, none⟩ = (symc y)[j]? := fun j hj => by
    rw [World.cell?, heap_alloc_new]
    simp only [List.getElem?_toArray]
    exact hat j hj
  rw [Nat.zero_add]
  exact ⟨hce 0 (by omega), hce 1 (by omega), hce 2 (by omega), hce 3 (by omega)⟩
theorem knownL_I : ∀ y ∈ knownL, y.I := fun y hy => by
  simp only [knownL, List.mem_cons, List.not_mem_nil, or_false] at hy
  rcases hy with rfl | rfl | rfl | rfl | rfl | rfl <;> exact ⟨⟨by decide, by decide⟩, ⟨by decide, by decide⟩, ⟨by decide, by decide⟩, ⟨by decide, by decide⟩⟩
theorem known_str : strOfNums (nums [97, 98, 97, 98, 97, 98, 97, 98, 120, 98, 120]) = ⟨#[97, 98, 97, 98, 97, 98, 97, 98, 120, 98, 120]⟩ := by kernel_rfl
set_option maxHeartbeats 2000000 in
set_option maxRecDepth 100000 in
theorem known_any (Y : SymSpec Win Tab) (w0 : World) (hT : Tab w0) : Calls Tryd.prog 10 #[] w0 fun e w' => e = .returned (.bool true) ∧ Chg (fun _ => False) w0 w' := by
  have HE : Hid (∀ w, Tab w → SymL w (some ⟨w0.heap.size, 0, none⟩) knownL → Calls Tryd.prog 14 #[.int .i64 10, .slice (some ⟨w0.heap.size, 0, none⟩) 6 6] w fun e w' => ∃ ov, e = .returned (.tuple #[ov, .int .i64 6, .int .i64 0]) ∧ w'.ownsRow w.heap.size 5 1 ov 11 (ins .u8 (nums [97, 98, 97, 98, 97, 98, 97, 98, 120, 98, 120])) ∧ Chg (fun _ => False) w w') := fun w h1 h2 => by
    have h9 := Y.expand 10 (some ⟨w0.heap.size, 0, none⟩) 6 knownL w h1 ⟨by decide, by decide⟩ h2 (by decide) (by decide)
    rw [known_exp] at h9
    exact h9
  have HSL : Hid _ := symL_alloc w0 knownL knownL_I 33
  have HC : Hid _ := chg_one w0 (.cells (symcs knownL).toArray 33)
  have HT : Hid (Tab w0) := hT
  clear hT
  go_enter Tryd.func10, Tryd.ntmps10
  go_wp2_with fail
  refine Calls.mono (HE.out _ (Y.new HT.out HC.out) HSL.out) ?_
  rintro z w1 ⟨ov, rfl, ho, c1⟩
  have HC1 : Hid _ := chg_then HC.out c1
  obtain ⟨oa, oc, hov⟩ := form1 ho
  subst hov
  have hcv := conv_own ho
  rw [known_str] at hcv
  clear ho c1 HE HSL HC
  go_wp2
  go_ret
  exact ⟨rfl, HC1.out⟩
/-- The size of a dictionary that is taken. -/
def dictN (n : Int) : Nat := if n < 1 ∨ 1000 < n then 40 else n.toNat
theorem dictN_in (n : Int) : 1 ≤ dictN n ∧ dictN n ≤ 1000 := by unfold dictN; split <;> omega
theorem lsize_q (n : Int) (w : World) : Calls Tryd.prog 8 #[.int .i64 n] w fun e w' => e = .returned (.int .i64 (dictN n : Int)) ∧ w' = w := by
  by_cases h0 : n < 1
  · have d0 : decide (n < 1) = true := decide_eq_true h0
    have HD : Hid (dictN n = 40) := by show _ = _; unfold dictN; rw [if_pos (.inl h0)]
    go_enter Tryd.func8, Tryd.ntmps8
    go_wp2
    go_ret
    exact ⟨by rw [HD.out]; rfl, rfl⟩
  · have d0 : decide (n < 1) = false := decide_eq_false h0
    by_cases h1 : 1000 < n
    · have d1 : decide (1000 < n) = true := decide_eq_true h1
      have HD : Hid (dictN n = 40) := by show _ = _; unfold dictN; rw [if_pos (.inr h1)]
      go_enter Tryd.func8, Tryd.ntmps8
      go_wp2
      go_ret
      exact ⟨by rw [HD.out]; rfl, rfl⟩
    · have d1 : decide (1000 < n) = false := decide_eq_false h1
      have HD : Hid ((dictN n : Int) = n) := by show _ = _; unfold dictN; rw [if_neg (by omega)]; omega
      go_enter Tryd.func8, Tryd.ntmps8
      go_wp2
      go_ret
      exact ⟨by rw [HD.out]; rfl, rfl⟩
end Go.Proofs.YtlnocjicmofjfaaDoor
