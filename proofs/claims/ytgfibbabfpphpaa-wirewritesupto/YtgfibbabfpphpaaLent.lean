/- The contracts of the statements' own functions lent and kept, of no statement by themselves. -/
import Derived.Test.YtgfibbabfpphpaaBook
namespace Go.Proofs.Ytgfibbabfpphpaa
open Go.RowKit

set_option maxRecDepth 100000 in
set_option maxHeartbeats 1000000 in
theorem lent_any (a0 : Option Addr) (m c : Nat) (xs : List Int) (w : World) (hx : Row8 w a0 m c xs) (hm : m ≤ 140737488000000) :
    Calls Try.prog 28 #[.slice a0 m c] w fun e w' => ∃ g cap, e = .returned (.tuple #[.slice (some ⟨g, 0, none⟩) m cap, .slice (some ⟨g, 0, none⟩) (m + 1) cap]) ∧
      w'.ownsRow w.heap.size 5 1 (.slice (some ⟨g, 0, none⟩) (m + 1) cap) (m + 1) (cells8 (xs ++ [165])) ∧ Chg (fun _ => False) w w' := by
  obtain ⟨i0, hi, hz0, hz1, hz2⟩ := info_parts info5
  go_enter Try.func28, Try.ntmps28
  go_wp2_with (at_builtin; refine wpList_append_moved rfl (.tmp 5) (.tmp 6) 22 rfl w.heap.size 5 i0 (.int .u8 0) 1 1 Try.underlying22 hi hz0 hz1 hz2 rfl (by decide) _ 0 [] rfl a0 m c rfl (xs.map (Value.int .u8)) (own_empty w) (row8_alloc hx _).src (oneCells _) (by unfold maxLen; omega) (by omega) (by simp) ?_)
  intro v1 w1 hown hg _
  have hc1 := chg_empty hg
  have hs1 : w.heap.size ≤ w1.heap.size := hc1.size
  have hal := hown.alloc (.cells #[.int .u8 165] 5)
  have hlt := fun b e => (hown.lt b e).1
  clear hg hown
  go_wp2_with (at_builtin; refine wpList_append_moved rfl (.tmp 8) (.tmp 9) 22 rfl w.heap.size 5 i0 (.int .u8 0) 1 1 Try.underlying22 hi hz0 hz1 hz2 rfl (by decide) _ m (xs.map (Value.int .u8)) rfl _ 1 1 rfl [.int .u8 165] hal (row8_one w1 165 5).src (oneCells [165]) (by unfold maxLen; omega) (by omega) (by simp; omega) ?_)
  intro v2 w2 hown2 hg2 _
  have hc2 : Chg (fun _ => False) w w2 := (hc1.alloc _).grown hg2 (fun b e => .inr (hlt b e))
  obtain ⟨g, cap, rfl⟩ : ∃ g cap, v2 = .slice (some ⟨g, 0, none⟩) (m + 1) cap := by
    rcases own_shape hown2 with ⟨_, e⟩ | ⟨g, cap, rfl⟩
    · omega
    · exact ⟨g, cap, rfl⟩
  have hcap : m + 1 ≤ cap := by
    rcases hown2.2 with ⟨e, _⟩ | ⟨g', cap', _, e, _, _, h, _⟩
    · cases e
    · simp only [Value.slice.injEq] at e; omega
  have HF : Hid (w2.ownsRow w.heap.size 5 1 (.slice (some ⟨g, 0, none⟩) (m + 1) cap) (m + 1) (cells8 (xs ++ [165]))) := by
    show w2.ownsRow _ _ _ _ _ _
    rw [cells8_append]
    exact hown2
  clear hg2 hown2 hal hc1
  go_wp2
  go_ret2
  exact ⟨g, cap, rfl, HF.out, hc2⟩

set_option maxRecDepth 100000 in
set_option maxHeartbeats 1000000 in
theorem kept_any (B g cap : Nat) (a0 : Option Addr) (m c : Nat) (xs : List Int) (w : World) (hf : w.ownsRow B 5 1 (.slice (some ⟨g, 0, none⟩) (m + 1) cap) (m + 1) (cells8 (xs ++ [165]))) (hx : Row8 w a0 m c xs) (hm : m ≤ 140737488000000) :
    Calls Try.prog 29 #[.slice (some ⟨g, 0, none⟩) (m + 1) cap, .slice a0 m c] w fun e w' => e = .returned (.bool true) ∧ ∃ k, w' = w.drewN k := by
  have hxl := hx.1
  have hcap : m ≤ cap := by
    rcases hf.2 with ⟨e, _⟩ | ⟨g', cap', _, e, _, _, h, _⟩
    · cases e
    · simp only [Value.slice.injEq] at e; omega
  have hcm : w.cell? ⟨g, m, none⟩ = some (.int .u8 165) := by
    rw [hf.cellAt m (by omega)]
    subst hxl
    simp [cells8]
  have hu := conv8 hx
  have hv : ∀ k, (convert 22 9 (.slice (some ⟨g, 0, none⟩) m cap)).run Try.prog (w.drewN k) = .ok (.string (strOfNums xs)) (w.drewN k) := by
    refine conv8 ⟨hxl, .inr ⟨_, rfl, fun j u hu => ?_⟩⟩
    have hadd : (⟨g, 0, none⟩ : Addr).add j = ⟨g, j, none⟩ := by unfold Addr.add; split <;> simp_all
    have hj : j < m := by
      have := (List.getElem?_eq_some_iff.1 hu).1
      simpa [hxl] using this
    rw [hadd, hf.cellAt j (by omega), cells8_append, List.getElem?_append_left (by simp [cells8]; omega)]
    exact hu
  clear hf hx
  go_enter Try.func29, Try.ntmps29
  go_wp2
  go_quiet (fail)
  go_wp2
  go_ret
  exact ⟨rfl, _, rfl⟩

end Go.Proofs.Ytgfibbabfpphpaa
