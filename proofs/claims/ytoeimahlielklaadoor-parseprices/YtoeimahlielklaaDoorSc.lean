/- The document's moves; of no statement by itself. -/
import Derived.Test.YtoeimahlielklaaDoorSb
namespace Go.Proofs.YtoeimahlielklaaDoor
open Go.RowKit
open St12
set_option linter.unusedVariables false
set_option linter.unusedSimpArgs false

set_option maxHeartbeats 4000000 in
theorem rformed_q (k y l d : Int) (i1 : I64 k) (i2 : I64 l) (i3 : I64 d) (w : World) : Calls Tryd.prog 12 #[.agg #[.int .i64 k, .int .u8 y, .int .i64 l, .int .i64 d]] w fun e w' => e = .returned (.int .i64 (formed ⟨k, y, l, d⟩)) ∧ Chg (fun _ => False) w w' := by
  by_cases h1 : k = 1
  · subst h1
    by_cases c0 : 2 ≤ l
    · have d0 : decide (2 ≤ l) = true := decide_eq_true c0
      by_cases c1 : l ≤ 273
      · have d1 : decide (l ≤ 273) = true := decide_eq_true c1
        have hF : formed ⟨1, y, l, d⟩ = 0 := by unfold formed; simp only; simp
        rw [hF]
        clear hF
        go_enter Tryd.func12, Tryd.ntmps12
        go_wp2
        go_ret
        exact ⟨rfl, chg_one _ _⟩
      · have d1 : decide (l ≤ 273) = false := decide_eq_false c1
        have hF : formed ⟨1, y, l, d⟩ = 0 := by unfold formed; simp only; simp
        rw [hF]
        clear hF
        go_enter Tryd.func12, Tryd.ntmps12
        go_wp2
        go_ret
        exact ⟨rfl, chg_one _ _⟩
    · have d0 : decide (2 ≤ l) = false := decide_eq_false c0
      have hF : formed ⟨1, y, l, d⟩ = 0 := by unfold formed; simp only; simp
      rw [hF]
      clear hF
      go_enter Tryd.func12, Tryd.ntmps12
      go_wp2
      go_ret
      exact ⟨rfl, chg_one _ _⟩
  · have e1 : (k == 1) = false := by rw [beq_eq_false_iff_ne]; exact h1
    have g1 : decide (k = 1) = false := decide_eq_false h1
    by_cases h4 : k = 4
    · subst h4
      by_cases c0 : 2 ≤ l
      · have d0 : decide (2 ≤ l) = true := decide_eq_true c0
        by_cases c1 : l ≤ 273
        · have d1 : decide (l ≤ 273) = true := decide_eq_true c1
          have hF : formed ⟨4, y, l, d⟩ = 0 := by unfold formed; simp only; simp
          rw [hF]
          clear hF
          go_enter Tryd.func12, Tryd.ntmps12
          go_wp2
          go_ret
          exact ⟨rfl, chg_one _ _⟩
        · have d1 : decide (l ≤ 273) = false := decide_eq_false c1
          have hF : formed ⟨4, y, l, d⟩ = 0 := by unfold formed; simp only; simp
          rw [hF]
          clear hF
          go_enter Tryd.func12, Tryd.ntmps12
          go_wp2
          go_ret
          exact ⟨rfl, chg_one _ _⟩
      · have d0 : decide (2 ≤ l) = false := decide_eq_false c0
        have hF : formed ⟨4, y, l, d⟩ = 0 := by unfold formed; simp only; simp
        rw [hF]
        clear hF
        go_enter Tryd.func12, Tryd.ntmps12
        go_wp2
        go_ret
        exact ⟨rfl, chg_one _ _⟩
    · have e4 : (k == 4) = false := by rw [beq_eq_false_iff_ne]; exact h4
      have g4 : decide (k = 4) = false := decide_eq_false h4
      by_cases h2 : k = 2
      · subst h2
        by_cases c0 : 2 ≤ l
        · have d0 : decide (2 ≤ l) = true := decide_eq_true c0
          by_cases c1 : l ≤ 273
          · have d1 : decide (l ≤ 273) = true := decide_eq_true c1
            by_cases c10 : 1 ≤ d
            · have d10 : decide (d < 1) = false := decide_eq_false (by omega)
              by_cases c11 : d ≤ 4294967295
              · have d11 : decide (4294967295 < d) = false := decide_eq_false (by omega)
                have hF : formed ⟨2, y, l, d⟩ = 0 := by unfold formed; simp only; rw [if_neg (by omega), if_pos trivial, if_pos (by omega)]
                rw [hF]
                clear hF
                go_enter Tryd.func12, Tryd.ntmps12
                go_wp2
                go_ret
                exact ⟨rfl, chg_one _ _⟩
              · have d11 : decide (4294967295 < d) = true := decide_eq_true (by omega)
                have hF : formed ⟨2, y, l, d⟩ = 7 := by unfold formed; simp only; rw [if_neg (by omega), if_pos trivial, if_neg (by omega)]
                rw [hF]
                clear hF
                go_enter Tryd.func12, Tryd.ntmps12
                go_wp2
                go_ret
                exact ⟨rfl, chg_one _ _⟩
            · have d10 : decide (d < 1) = true := decide_eq_true (by omega)
              have hF : formed ⟨2, y, l, d⟩ = 7 := by unfold formed; simp only; rw [if_neg (by omega), if_pos trivial, if_neg (by omega)]
              rw [hF]
              clear hF
              go_enter Tryd.func12, Tryd.ntmps12
              go_wp2
              go_ret
              exact ⟨rfl, chg_one _ _⟩
          · have d1 : decide (l ≤ 273) = false := decide_eq_false c1
            have hF : formed ⟨2, y, l, d⟩ = 7 := by unfold formed; simp only; rw [if_neg (by omega), if_pos trivial, if_neg (by omega)]
            rw [hF]
            clear hF
            go_enter Tryd.func12, Tryd.ntmps12
            go_wp2
            go_ret
            exact ⟨rfl, chg_one _ _⟩
        · have d0 : decide (2 ≤ l) = false := decide_eq_false c0
          have hF : formed ⟨2, y, l, d⟩ = 7 := by unfold formed; simp only; rw [if_neg (by omega), if_pos trivial, if_neg (by omega)]
          rw [hF]
          clear hF
          go_enter Tryd.func12, Tryd.ntmps12
          go_wp2
          go_ret
          exact ⟨rfl, chg_one _ _⟩
      · have e2 : (k == 2) = false := by rw [beq_eq_false_iff_ne]; exact h2
        have g2 : decide (k = 2) = false := decide_eq_false h2
        by_cases h3 : k = 3
        · subst h3
          by_cases c0 : 2 ≤ l
          · have d0 : decide (2 ≤ l) = true := decide_eq_true c0
            by_cases c1 : l ≤ 273
            · have d1 : decide (l ≤ 273) = true := decide_eq_true c1
              by_cases c10 : 0 ≤ d
              · have d10 : decide (d < 0) = false := decide_eq_false (by omega)
                by_cases c11 : d ≤ 3
                · have d11 : decide (3 < d) = false := decide_eq_false (by omega)
                  have hF : formed ⟨3, y, l, d⟩ = 0 := by unfold formed; simp only; rw [if_neg (by omega), if_neg (by omega), if_pos trivial, if_pos (by omega)]
                  rw [hF]
                  clear hF
                  go_enter Tryd.func12, Tryd.ntmps12
                  go_wp2
                  go_ret
                  exact ⟨rfl, chg_one _ _⟩
                · have d11 : decide (3 < d) = true := decide_eq_true (by omega)
                  have hF : formed ⟨3, y, l, d⟩ = 7 := by unfold formed; simp only; rw [if_neg (by omega), if_neg (by omega), if_pos trivial, if_neg (by omega)]
                  rw [hF]
                  clear hF
                  go_enter Tryd.func12, Tryd.ntmps12
                  go_wp2
                  go_ret
                  exact ⟨rfl, chg_one _ _⟩
              · have d10 : decide (d < 0) = true := decide_eq_true (by omega)
                have hF : formed ⟨3, y, l, d⟩ = 7 := by unfold formed; simp only; rw [if_neg (by omega), if_neg (by omega), if_pos trivial, if_neg (by omega)]
                rw [hF]
                clear hF
                go_enter Tryd.func12, Tryd.ntmps12
                go_wp2
                go_ret
                exact ⟨rfl, chg_one _ _⟩
            · have d1 : decide (l ≤ 273) = false := decide_eq_false c1
              have hF : formed ⟨3, y, l, d⟩ = 7 := by unfold formed; simp only; rw [if_neg (by omega), if_neg (by omega), if_pos trivial, if_neg (by omega)]
              rw [hF]
              clear hF
              go_enter Tryd.func12, Tryd.ntmps12
              go_wp2
              go_ret
              exact ⟨rfl, chg_one _ _⟩
          · have d0 : decide (2 ≤ l) = false := decide_eq_false c0
            have hF : formed ⟨3, y, l, d⟩ = 7 := by unfold formed; simp only; rw [if_neg (by omega), if_neg (by omega), if_pos trivial, if_neg (by omega)]
            rw [hF]
            clear hF
            go_enter Tryd.func12, Tryd.ntmps12
            go_wp2
            go_ret
            exact ⟨rfl, chg_one _ _⟩
        · have e3 : (k == 3) = false := by rw [beq_eq_false_iff_ne]; exact h3
          have g3 : decide (k = 3) = false := decide_eq_false h3
          by_cases c0 : 2 ≤ l
          · have d0 : decide (2 ≤ l) = true := decide_eq_true c0
            by_cases c1 : l ≤ 273
            · have d1 : decide (l ≤ 273) = true := decide_eq_true c1
              have hF : formed ⟨k, y, l, d⟩ = 6 := by unfold formed; simp only; rw [if_neg (by omega), if_neg (by omega), if_neg (by omega)]
              rw [hF]
              clear hF
              go_enter Tryd.func12, Tryd.ntmps12
              go_wp2
              go_ret
              exact ⟨rfl, chg_one _ _⟩
            · have d1 : decide (l ≤ 273) = false := decide_eq_false c1
              have hF : formed ⟨k, y, l, d⟩ = 6 := by unfold formed; simp only; rw [if_neg (by omega), if_neg (by omega), if_neg (by omega)]
              rw [hF]
              clear hF
              go_enter Tryd.func12, Tryd.ntmps12
              go_wp2
              go_ret
              exact ⟨rfl, chg_one _ _⟩
          · have d0 : decide (2 ≤ l) = false := decide_eq_false c0
            have hF : formed ⟨k, y, l, d⟩ = 6 := by unfold formed; simp only; rw [if_neg (by omega), if_neg (by omega), if_neg (by omega)]
            rw [hF]
            clear hF
            go_enter Tryd.func12, Tryd.ntmps12
            go_wp2
            go_ret
            exact ⟨rfl, chg_one _ _⟩
theorem cells5f {w : World} {a : Nat} {x0 x1 x2 x3 x4 : Value} {t : TypeId} (h : w.heap[a]? = some (.cells #[x0, x1, x2, x3, x4] t (0, 0))) : (w.frozen? ⟨a, 0, none⟩ = false ∧ w.frozen? ⟨a, 1, none⟩ = false ∧ w.frozen? ⟨a, 2, none⟩ = false ∧ w.frozen? ⟨a, 3, none⟩ = false ∧ w.frozen? ⟨a, 4, none⟩ = false) :=
  ⟨by simp [World.frozen?, h], by simp [World.frozen?, h], by simp [World.frozen?, h], by simp [World.frozen?, h], by simp [World.frozen?, h]⟩
/-- The distance number i. -/
def repI (s : Stt) (i : Nat) : Int := match i with | 0 => s.a | 1 => s.b | 2 => s.c | _ => s.d
theorem right_iff (s : Stt) : right s ↔ (0 ≤ s.n ∧ s.n ≤ 11) ∧ ∀ i, i < 4 → okR (repI s i) := by
  unfold right
  constructor
  · rintro ⟨h, a, b, c, d⟩
    refine ⟨h, fun i hi => ?_⟩
    rcases i with _ | _ | _ | _ | i
    · exact a
    · exact b
    · exact c
    · exact d
    · omega
  · rintro ⟨h, f⟩
    exact ⟨h, f 0 (by omega), f 1 (by omega), f 2 (by omega), f 3 (by omega)⟩
theorem rep_cell {w : World} {g : Nat} {s : Stt} {t : TypeId} (h : w.heap[g]? = some (.cells #[.int .i64 s.n, .int .i64 s.a, .int .i64 s.b, .int .i64 s.c, .int .i64 s.d] t (0, 0))) {i : Nat} (hi : i < 4) : w.cell? ⟨g, 1 + i, none⟩ = some (.int .i64 (repI s i)) := by
  rcases i with _ | _ | _ | _ | i
  · simp [World.cell?, h, repI]
  · simp [World.cell?, h, repI]
  · simp [World.cell?, h, repI]
  · simp [World.cell?, h, repI]
  · omega
end Go.Proofs.YtoeimahlielklaaDoor
