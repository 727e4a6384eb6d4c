/- The landed window's Put; of no statement by itself. -/
import Derived.Test.YtlnocjicmofjfaaDoorXe
namespace Go.Proofs.YtlnocjicmofjfaaDoor
open Go.RowKit
set_option linter.unusedVariables false

set_option maxHeartbeats 2000000 in
set_option maxRecDepth 100000 in
theorem wput_any (B a : Nat) (v : Value) (n : Nat) (bs : List Nat) (ad : Option Addr) (m c : Nat) (xs : List Nat) (w : World) (h : Win w B a v n bs) (hB : B ≤ w.heap.size) (hr : Row8 w ad m c (nums xs)) (hdig : Rc.Dig xs) (hap : ∀ x, ad = some x → ¬ Foot a v x.block) (hmc : m ≤ c) (hm : m ≤ 140737488355328) (hl : bs.length + m ≤ 1152921504606846976) :
    Calls Tryd.prog 18 #[.pointer (some ⟨a, 0, none⟩), .slice ad m c] w fun e w' => e = .returned (.tuple #[]) ∧ ∃ v', Win w' B a v' n (bs ++ xs) ∧ Chg (Foot a v) w w' ∧ Moved w v v' := by
  obtain ⟨ring, h⟩ := h
  obtain ⟨k, hk⟩ : ∃ k, min m (n - ring.length) = k := ⟨_, rfl⟩
  have HG : Hid _ := wgrow_any ad m c xs w h hB hr hdig hap hmc hm hl k hk
  have hmx : xs.length = m := by have := hr.1; rw [nums_len] at this; exact this
  have hkm : k ≤ m := by omega
  have HFL : Hid (∀ v' w', WinR w' B a v' n (bs ++ xs.take k) (ring ++ xs.take k) → Chg (Foot a v) w w' → Moved w v v' → Calls Tryd.prog 42 #[.pointer (some ⟨a, 0, none⟩), .slice (cutA ad c k) (m - k) (c - k)] w' fun e w2 => e = .returned (.tuple #[]) ∧ Win w2 B a v' n (bs ++ xs) ∧ Chg (Foot a v') w' w2) := fun v' w' hw hc hmv => by
    have hrow := row8_drop (row8_keep hr hc hap) k hkm hmc
    rw [show (nums xs).drop k = nums (xs.drop k) by simp [nums, List.map_drop]] at hrow
    have hy : (xs.take k).length = k := by rw [List.length_take]; omega
    have := wlay_any (cutA ad c k) (m - k) (c - k) (xs.drop k) w' hw hrow (fun x hx => hdig x (List.mem_of_mem_drop hx)) (fun h0 x e f => ?_) (by omega) (by omega) (by rw [List.length_append, hy]; omega) (fun h0 => by
      have h1 := h.small
      rw [List.length_append, hy]
      omega)
    · rw [List.append_assoc, List.take_append_drop] at this
      exact this
    · obtain ⟨y, e1, e2⟩ := cutA_block e
      rw [e2] at f
      rcases f with f | f
      · exact hap y e1 (.inl f)
      · rcases hmv y.block f with q | q
        · exact hap y e1 (.inr q)
        · rcases hr.2 with ⟨e3, _⟩ | ⟨x3, e3, hx3⟩
          · rw [e3] at e1; cases e1
          · rw [e3] at e1
            cases e1
            have hlt : ((nums xs).map (Value.int .u8))[0]? = some (((nums xs).map (Value.int .u8))[0]'(by rw [List.length_map, nums_len]; omega)) := List.getElem?_eq_getElem _
            have := World.block_lt_of_cell? w _ (hx3 0 _ hlt)
            rw [addr_add0] at this
            omega
  clear h hr hdig hap
  go_enter Tryd.func18, Tryd.ntmps18
  go_wp2_with fail
  refine Calls.mono HG.out ?_
  rintro z w1 ⟨rfl, v1, hw1, c1, m1⟩
  have HC1 : Hid (Chg (Foot a v) w w1 ∧ Moved w v v1) := ⟨c1, m1⟩
  have HL1 : Hid _ := HFL.out v1 w1 hw1 c1 m1
  clear hw1 c1 m1 HG HFL
  go_wp2_with fail
  refine Calls.mono HL1.out ?_
  rintro z w2 ⟨rfl, hw2, c2⟩
  have HW2 : Hid (Win w2 B a v1 n (bs ++ xs)) := hw2
  have HC2 : Hid (Chg (Foot a v) w w2) := HC1.out.1.trans c2 (fun z f => HC1.out.2.foot a z f)
  clear hw2 c2 HL1
  go_wp2
  go_end0
  exact ⟨rfl, v1, HW2.out, HC2.out, HC1.out.2⟩
end Go.Proofs.YtlnocjicmofjfaaDoor
