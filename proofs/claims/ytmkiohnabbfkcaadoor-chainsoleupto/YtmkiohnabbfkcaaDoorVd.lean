/- The program's properties; of no statement by itself. -/
import Derived.Test.YtmkiohnabbfkcaaDoorVa
import Derived.Test.YtmkiohnabbfkcaaDoorSb
namespace Go.Proofs.YtmkiohnabbfkcaaDoor
open Go.RowKit
open St12
set_option linter.unusedVariables false
set_option linter.unusedSimpArgs false

set_option maxHeartbeats 2000000 in
theorem tallowed_q (lc lp pb : Int) (i1 : I64 lc) (i2 : I64 lp) (i3 : I64 pb) (w : World) : Calls Tryd.prog 41 #[.agg #[.int .i64 lc, .int .i64 lp, .int .i64 pb]] w fun e w' => e = .returned (.bool (decide (allow ⟨lc, lp, pb⟩))) ∧ Chg (fun _ => False) w w' := by
  have j1 : lc ≤ 9223372036854775807 := i1.2
  by_cases h0 : 0 ≤ lc
  · have d0 : decide (0 ≤ lc) = true := decide_eq_true h0
    by_cases h1 : 0 ≤ lp
    · have d1 : decide (0 ≤ lp) = true := decide_eq_true h1
      by_cases h2 : 0 ≤ pb
      · have d2 : decide (0 ≤ pb) = true := decide_eq_true h2
        by_cases h3 : lp ≤ 4 - lc
        · have d3 : decide (lp ≤ 4 - lc) = true := decide_eq_true h3
          by_cases h4 : pb ≤ 4
          · have d4 : decide (pb ≤ 4) = true := decide_eq_true h4
            have hA : decide (allow ⟨lc, lp, pb⟩) = true := decide_eq_true (by unfold allow; simp only; omega)
            rw [hA]
            clear hA
            go_enter Tryd.func41, Tryd.ntmps41
            go_wp2
            go_ret
            exact ⟨rfl, chg_one _ _⟩
          · have d4 : decide (pb ≤ 4) = false := decide_eq_false h4
            have hA : decide (allow ⟨lc, lp, pb⟩) = false := decide_eq_false (by unfold allow; simp only; omega)
            rw [hA]
            clear hA h4
            go_enter Tryd.func41, Tryd.ntmps41
            go_wp2
            go_ret
            exact ⟨rfl, chg_one _ _⟩
        · have d3 : decide (lp ≤ 4 - lc) = false := decide_eq_false h3
          have hA : decide (allow ⟨lc, lp, pb⟩) = false := decide_eq_false (by unfold allow; simp only; omega)
          rw [hA]
          clear hA h3
          go_enter Tryd.func41, Tryd.ntmps41
          go_wp2
          go_ret
          exact ⟨rfl, chg_one _ _⟩
      · have d2 : decide (0 ≤ pb) = false := decide_eq_false h2
        have hA : decide (allow ⟨lc, lp, pb⟩) = false := decide_eq_false (by unfold allow; simp only; omega)
        rw [hA]
        clear hA h2
        go_enter Tryd.func41, Tryd.ntmps41
        go_wp2
        go_ret
        exact ⟨rfl, chg_one _ _⟩
    · have d1 : decide (0 ≤ lp) = false := decide_eq_false h1
      have hA : decide (allow ⟨lc, lp, pb⟩) = false := decide_eq_false (by unfold allow; simp only; omega)
      rw [hA]
      clear hA h1
      go_enter Tryd.func41, Tryd.ntmps41
      go_wp2
      go_ret
      exact ⟨rfl, chg_one _ _⟩
  · have d0 : decide (0 ≤ lc) = false := decide_eq_false h0
    have hA : decide (allow ⟨lc, lp, pb⟩) = false := decide_eq_false (by unfold allow; simp only; omega)
    rw [hA]
    clear hA h0
    go_enter Tryd.func41, Tryd.ntmps41
    go_wp2
    go_ret
    exact ⟨rfl, chg_one _ _⟩
theorem cells3c {w : World} {a : Nat} {x y z : Value} {t : TypeId} (h : w.heap[a]? = some (.cells #[x, y, z] t (0, 0))) : w.cell? ⟨a, 0, none⟩ = some x ∧ w.cell? ⟨a, 1, none⟩ = some y ∧ w.cell? ⟨a, 2, none⟩ = some z :=
  ⟨by simp [World.cell?, h], by simp [World.cell?, h], by simp [World.cell?, h]⟩
set_option maxHeartbeats 1000000 in
theorem tpb_q (lc lp pb : Int) (i1 : I64 lc) (i2 : I64 lp) (i3 : I64 pb) (w : World) : Calls Tryd.prog 32 #[.agg #[.int .i64 lc, .int .i64 lp, .int .i64 pb]] w fun e w' => e = .returned (.tuple #[.int .i64 (byteP ⟨lc, lp, pb⟩).1, .int .i64 (byteP ⟨lc, lp, pb⟩).2]) ∧ Chg (fun _ => False) w w' := by
  have cB := chg_one w (.cells #[.int .i64 lc, .int .i64 lp, .int .i64 pb] 25)
  have hbk := heap_alloc_last w (.cells #[.int .i64 lc, .int .i64 lp, .int .i64 pb] 25)
  have HA : Hid _ := tallowed_q lc lp pb i1 i2 i3 (w.alloc (.cells #[.int .i64 lc, .int .i64 lp, .int .i64 pb] 25))
  by_cases h : allow ⟨lc, lp, pb⟩
  · have e : byteP ⟨lc, lp, pb⟩ = ((pb * 5 + lp) * 9 + lc, 0) := by unfold byteP; rw [if_pos h, Int.mul_comm pb 5]
    rw [e]
    rw [decide_eq_true h] at HA
    obtain ⟨⟨b1, b2, b3⟩, b4, b5⟩ := h
    simp only at b1 b2 b3 b4 b5
    have b6 : lc ≤ 4 := by omega
    have b7 : lp ≤ 4 := by omega
    clear e
    go_enter Tryd.func32, Tryd.ntmps32
    go_wp2_with fail
    refine Calls.mono HA.out ?_
    rintro z w2 ⟨rfl, c2⟩
    obtain ⟨k0, k1, k2⟩ := cells3c (blk_keep hbk c2 (fun f => f))
    have HC : Hid (Chg (fun _ => False) w w2) := chg_then cB c2
    clear HA c2 hbk cB
    go_wp2
    go_ret2
    exact ⟨by go_num, HC.out⟩
  · have e : byteP ⟨lc, lp, pb⟩ = (0, 6) := by unfold byteP; rw [if_neg h]
    rw [e]
    rw [decide_eq_false h] at HA
    clear e
    go_enter Tryd.func32, Tryd.ntmps32
    go_wp2_with fail
    refine Calls.mono HA.out ?_
    rintro z w2 ⟨rfl, c2⟩
    have HC : Hid (Chg (fun _ => False) w w2) := chg_then cB c2
    clear HA c2 hbk cB
    go_wp2
    go_ret2
    exact ⟨rfl, HC.out⟩
end Go.Proofs.YtmkiohnabbfkcaaDoor
