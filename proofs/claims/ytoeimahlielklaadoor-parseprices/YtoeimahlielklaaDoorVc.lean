/- Is a symbol formed: the program's; of no statement by itself. -/
import Derived.Test.YtoeimahlielklaaDoorVb
namespace Go.Proofs.YtoeimahlielklaaDoor
open Go.RowKit
open St12
set_option linter.unusedVariables false
set_option linter.unusedSimpArgs false

def fmd (y : Sym) : Bool := if y.k = 2 then decide ((2 ≤ y.l ∧ y.l ≤ 273) ∧ okR y.d) else if y.k = 3 then decide ((2 ≤ y.l ∧ y.l ≤ 273) ∧ 0 ≤ y.d ∧ y.d ≤ 3) else true
theorem cells4z {w : World} {a : Nat} {x y z u : Value} {t : TypeId} (h : w.heap[a]? = some (.cells #[x, y, z, u] t (0, 0))) : w.cell? ⟨a, 0, none⟩ = some x ∧ w.cell? ⟨a, 1, none⟩ = some y ∧ w.cell? ⟨a, 2, none⟩ = some z ∧ w.cell? ⟨a, 3, none⟩ = some u :=
  ⟨by simp [World.cell?, h], by simp [World.cell?, h], by simp [World.cell?, h], by simp [World.cell?, h]⟩
set_option maxHeartbeats 2000000 in
theorem tformed_q (k yb yl yd : Int) (w : World) : Calls Tryd.prog 17 #[.agg #[.int .i64 k, .int .u8 yb, .int .i64 yl, .int .i64 yd]] w fun e w' => e = .returned (.bool (fmd ⟨k, yb, yl, yd⟩)) ∧ Chg (fun _ => False) w w' := by
  have cB := chg_one w (.cells #[.int .i64 k, .int .u8 yb, .int .i64 yl, .int .i64 yd] 24)
  obtain ⟨k0, k1, k2, k3⟩ := cells4z (heap_alloc_last w (.cells #[.int .i64 k, .int .u8 yb, .int .i64 yl, .int .i64 yd] 24))
  have HC : Hid _ := cB
  have HD : Hid (∀ d w, Calls Tryd.prog 22 #[.int .i64 d] w fun e w' => e = .returned (.bool (decide (okR d))) ∧ w' = w) := isdist_q
  have HL : Hid (∀ d w, Calls Tryd.prog 23 #[.int .i64 d] w fun e w' => e = .returned (.bool (decide (2 ≤ d ∧ d ≤ 273))) ∧ w' = w) := islen_q
  clear cB
  by_cases h2 : k = 2
  · subst h2
    have HF : Hid (fmd ⟨2, yb, yl, yd⟩ = decide ((2 ≤ yl ∧ yl ≤ 273) ∧ okR yd)) := rfl
    go_enter Tryd.func17, Tryd.ntmps17
    go_wp2_with fail
    generalize w.alloc (.cells #[.int .i64 2, .int .u8 yb, .int .i64 yl, .int .i64 yd] 24) = W at *
    refine (HL.out yl _).mono ?_
    rintro z w1 ⟨rfl, rfl⟩
    by_cases t : 2 ≤ yl ∧ yl ≤ 273
    · rw [decide_eq_true t]
      have HG : Hid (fmd ⟨2, yb, yl, yd⟩ = decide (okR yd)) := HF.out.trans (by simp [t])
      clear t HF
      go_wp2_with fail
      refine (HD.out yd _).mono ?_
      rintro z w1 ⟨rfl, rfl⟩
      go_wp2
      go_ret
      exact ⟨by rw [HG.out]; rfl, HC.out⟩
    · rw [decide_eq_false t]
      have HG : Hid (fmd ⟨2, yb, yl, yd⟩ = false) := HF.out.trans (decide_eq_false (fun h => t h.1))
      clear t HF
      go_wp2
      go_ret
      exact ⟨by rw [HG.out]; rfl, HC.out⟩
  by_cases h3 : k = 3
  · subst h3
    have HF : Hid (fmd ⟨3, yb, yl, yd⟩ = decide ((2 ≤ yl ∧ yl ≤ 273) ∧ 0 ≤ yd ∧ yd ≤ 3)) := rfl
    go_enter Tryd.func17, Tryd.ntmps17
    go_wp2_with fail
    generalize w.alloc (.cells #[.int .i64 3, .int .u8 yb, .int .i64 yl, .int .i64 yd] 24) = W at *
    refine (HL.out yl _).mono ?_
    rintro z w1 ⟨rfl, rfl⟩
    by_cases t : 2 ≤ yl ∧ yl ≤ 273
    · rw [decide_eq_true t]
      by_cases c1 : 0 ≤ yd
      · have d1 : decide (0 ≤ yd) = true := decide_eq_true c1
        have HG : Hid (fmd ⟨3, yb, yl, yd⟩ = decide (yd ≤ 3)) := HF.out.trans (by simp [t, c1])
        clear t HF
        go_wp2
        go_ret
        exact ⟨by rw [HG.out]; rfl, HC.out⟩
      · have d1 : decide (0 ≤ yd) = false := decide_eq_false c1
        have HG : Hid (fmd ⟨3, yb, yl, yd⟩ = false) := HF.out.trans (decide_eq_false (fun h => c1 h.2.1))
        clear t HF
        go_wp2
        go_ret
        exact ⟨by rw [HG.out]; rfl, HC.out⟩
    · rw [decide_eq_false t]
      have HG : Hid (fmd ⟨3, yb, yl, yd⟩ = false) := HF.out.trans (decide_eq_false (fun h => t h.1))
      clear t HF
      go_wp2
      go_ret
      exact ⟨by rw [HG.out]; rfl, HC.out⟩
  have d2 : (k == 2) = false := by simp [h2]
  have d3 : (k == 3) = false := by simp [h3]
  have HF : Hid (fmd ⟨k, yb, yl, yd⟩ = true) := by show fmd _ = true; unfold fmd; simp [h2, h3]
  go_enter Tryd.func17, Tryd.ntmps17
  go_wp2
  go_ret
  exact ⟨by rw [HF.out]; rfl, HC.out⟩
/-- What stands in the way of a symbol, by what the program asks. -/
theorem formed_of {y : Sym} : formed y = if ¬ (1 ≤ y.k ∧ y.k ≤ 4) then 6 else if fmd y = false then 7 else 0 := by
  obtain ⟨k, yb, yl, yd⟩ := y
  unfold formed fmd okR
  simp only
  by_cases h1 : k = 1
  · subst h1; simp
  by_cases h2 : k = 2
  · subst h2
    by_cases h : (2 ≤ yl ∧ yl ≤ 273) ∧ 1 ≤ yd ∧ yd ≤ 4294967295
    · simp [h]
    · rw [decide_eq_false h, if_neg (by omega), if_pos rfl, if_neg h, if_neg (by omega), if_pos rfl, if_pos rfl]
  by_cases h3 : k = 3
  · subst h3
    by_cases h : (2 ≤ yl ∧ yl ≤ 273) ∧ 0 ≤ yd ∧ yd ≤ 3
    · simp [h]
    · rw [decide_eq_false h, if_neg (show ¬ ((3 : Int) = 1 ∨ (3 : Int) = 4) by omega), if_neg (show ¬ (3 : Int) = 2 by omega), if_pos rfl, if_neg h]
      simp
  by_cases h4 : k = 4
  · subst h4; simp
  rw [if_neg (by omega), if_neg h2, if_neg h3, if_pos (by omega)]
end Go.Proofs.YtoeimahlielklaaDoor
