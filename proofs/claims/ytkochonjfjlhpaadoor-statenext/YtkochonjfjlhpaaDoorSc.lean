/- The document's moves; of no statement by itself. -/
import Derived.Test.YtkochonjfjlhpaaDoorSb
namespace Go.Proofs.YtkochonjfjlhpaaDoor
open Go.RowKit
open St12
set_option linter.unusedVariables false
set_option linter.unusedSimpArgs false

set_option maxHeartbeats 4000000 in
theorem rformed_q (k y l d : Int) (i1 : I64 k) (i2 : I64 l) (i3 : I64 d) (w : World) : Calls Tryd.prog 35 #[.agg #[.int .i64 k, .int .u8 y, .int .i64 l, .int .i64 d]] w fun e w' => e = .returned (.int .i64 (formed ⟨k, y, l, d⟩)) ∧ Chg (fun _ => False) w w' := by
  by_cases h1 : k = 1
  · subst h1
    by_cases c0 : 2 ≤ l
    · have d0 : decide (2 ≤ l) = true := decide_eq_true c0
      by_cases c1 : l ≤ 273
      · have d1 : decide (l ≤ 273) = true := decide_eq_true c1
        have hF : formed ⟨1, y, l, d⟩ = 0 := by unfold formed; simp only; simp
        rw [hF]
        clear hF
        go_enter Tryd.func35, Tryd.ntmps35
        go_wp2
        go_ret
        exact ⟨rfl, chg_one _ _⟩
      · have d1 : decide (l ≤ 273) = false := decide_eq_false c1
        have hF : formed ⟨1, y, l, d⟩ = 0 := by unfold formed; simp only; simp
        rw [hF]
        clear hF
        go_enter Tryd.func35, Tryd.ntmps35
        go_wp2
        go_ret
        exact ⟨rfl, chg_one _ _⟩
    · have d0 : decide (2 ≤ l) = false := decide_eq_false c0
      have hF : formed ⟨1, y, l, d⟩ = 0 := by unfold formed; simp only; simp
      rw [hF]
      clear hF
      go_enter Tryd.func35, Tryd.ntmps35
      go_wp2
      go_ret
      exact ⟨rfl, chg_one _ _⟩
  · have e1 : (k == 1) = false := by rw [beq_eq_false_iff_ne]; exact h1
    have g1 : decide (k = 1) = false := decide_eq_false h1
    by_cases h4 : k = 4
    · subst h4
      by_cases c0 : 2 ≤ l
      · have d0 : decide (2 ≤ l) = true := decide_eq_true c0
        by_cases c1 : l ≤ 273
        · have d1 : decide (l ≤ 273) = true := decide_eq_true c1
          have hF : formed ⟨4, y, l, d⟩ = 0 := by unfold formed; simp only; simp
          rw [hF]
          clear hF
          go_enter Tryd.func35, Tryd.ntmps35
          go_wp2
          go_ret
          exact ⟨rfl, chg_one _ _⟩
        · have d1 : decide (l ≤ 273) = false := decide_eq_false c1
          have hF : formed ⟨4, y, l, d⟩ = 0 := by unfold formed; simp only; simp
          rw [hF]
          clear hF
          go_enter Tryd.func35, Tryd.ntmps35
          go_wp2
          go_ret
          exact ⟨rfl, chg_one _ _⟩
      · have d0 : decide (2 ≤ l) = false := decide_eq_false c0
        have hF : formed ⟨4, y, l, d⟩ = 0 := by unfold formed; simp only; simp
        rw [hF]
        clear hF
        go_enter Tryd.func35, Tryd.ntmps35
        go_wp2
        go_ret
        exact ⟨rfl, chg_one _ _⟩
    · have e4 : (k == 4) = false := by rw [beq_eq_false_iff_ne]; exact h4
      have g4 : decide (k = 4) = false := decide_eq_false h4
      by_cases h2 : k = 2
      · subst h2
        by_cases c0 : 2 ≤ l
        · have d0 : decide (2 ≤ l) = true := decide_eq_true c0
          by_cases c1 : l ≤ 273
          · have d1 : decide (l ≤ 273) = true := decide_eq_true c1
            by_cases c10 : 1 ≤ d
            · have d10 : decide (d < 1) = false := decide_eq_false (by omega)
              by_cases c11 : d ≤ 4294967295
              · have d11 : decide (4294967295 < d) = false := decide_eq_false (by omega)
                have hF : formed ⟨2, y, l, d⟩ = 0 := by unfold formed; simp only; rw [if_neg (by omega), if_pos trivial, if_pos (by omega)]
                rw [hF]
                clear hF
                go_enter Tryd.func35, Tryd.ntmps35
                go_wp2
                go_ret
                exact ⟨rfl, chg_one _ _⟩
              · have d11 : decide (4294967295 < d) = true := decide_eq_true (by omega)
                have hF : formed ⟨2, y, l, d⟩ = 7 := by unfold formed; simp only; rw [if_neg (by omega), if_pos trivial, if_neg (by omega)]
                rw [hF]
                clear hF
                go_enter Tryd.func35, Tryd.ntmps35
                go_wp2
                go_ret
                exact ⟨rfl, chg_one _ _⟩
            · have d10 : decide (d < 1) = true := decide_eq_true (by omega)
              have hF : formed ⟨2, y, l, d⟩ = 7 := by unfold formed; simp only; rw [if_neg (by omega), if_pos trivial, if_neg (by omega)]
              rw [hF]
              clear hF
              go_enter Tryd.func35, Tryd.ntmps35
              go_wp2
              go_ret
              exact ⟨rfl, chg_one _ _⟩
          · have d1 : decide (l ≤ 273) = false := decide_eq_false c1
            have hF : formed ⟨2, y, l, d⟩ = 7 := by unfold formed; simp only; rw [if_neg (by omega), if_pos trivial, if_neg (by omega)]
            rw [hF]
            clear hF
            go_enter Tryd.func35, Tryd.ntmps35
            go_wp2
            go_ret
            exact ⟨rfl, chg_one _ _⟩
        · have d0 : decide (2 ≤ l) = false := decide_eq_false c0
          have hF : formed ⟨2, y, l, d⟩ = 7 := by unfold formed; simp only; rw [if_neg (by omega), if_pos trivial, if_neg (by omega)]
          rw [hF]
          clear hF
          go_enter Tryd.func35, Tryd.ntmps35
          go_wp2
          go_ret
          exact ⟨rfl, chg_one _ _⟩
      · have e2 : (k == 2) = false := by rw [beq_eq_false_iff_ne]; exact h2
        have g2 : decide (k = 2) = false := decide_eq_false h2
        by_cases h3 : k = 3
        · subst h3
          by_cases c0 : 2 ≤ l
          · have d0 : decide (2 ≤ l) = true := decide_eq_true c0
            by_cases c1 : l ≤ 273
            · have d1 : decide (l ≤ 273) = true := decide_eq_true c1
              by_cases c10 : 0 ≤ d
              · have d10 : decide (d < 0) = false := decide_eq_false (by omega)
                by_cases c11 : d ≤ 3
                · have d11 : decide (3 < d) = false := decide_eq_false (by omega)
                  have hF : formed ⟨3, y, l, d⟩ = 0 := by unfold formed; simp only; rw [if_neg (by omega), if_neg (by omega), if_pos trivial, if_pos (by omega)]
                  rw [hF]
                  clear hF
                  go_enter Tryd.func35, Tryd.ntmps35
                  go_wp2
                  go_ret
                  exact ⟨rfl, chg_one _ _⟩
                · have d11 : decide (3 < d) = true := decide_eq_true (by omega)
                  have hF : formed ⟨3, y, l, d⟩ = 7 := by unfold formed; simp only; rw [if_neg (by omega), if_neg (by omega), if_pos trivial, if_neg (by omega)]
                  rw [hF]
                  clear hF
                  go_enter Tryd.func35, Tryd.ntmps35
                  go_wp2
                  go_ret
                  exact ⟨rfl, chg_one _ _⟩
              · have d10 : decide (d < 0) = true := decide_eq_true (by omega)
                have hF : formed ⟨3, y, l, d⟩ = 7 := by unfold formed; simp only; rw [if_neg (by omega), if_neg (by omega), if_pos trivial, if_neg (by omega)]
                rw [hF]
                clear hF
                go_enter Tryd.func35, Tryd.ntmps35
                go_wp2
                go_ret
                exact ⟨rfl, chg_one _ _⟩
            · have d1 : decide (l ≤ 273) = false := decide_eq_false c1
              have hF : formed ⟨3, y, l, d⟩ = 7 := by unfold formed; simp only; rw [if_neg (by omega), if_neg (by omega), if_pos trivial, if_neg (by omega)]
              rw [hF]
              clear hF
              go_enter Tryd.func35, Tryd.ntmps35
              go_wp2
              go_ret
              exact ⟨rfl, chg_one _ _⟩
          · have d0 : decide (2 ≤ l) = false := decide_eq_false c0
            have hF : formed ⟨3, y, l, d⟩ = 7 := by unfold formed; simp only; rw [if_neg (by omega), if_neg (by omega), if_pos trivial, if_neg (by omega)]
            rw [hF]
            clear hF
            go_enter Tryd.func35, Tryd.ntmps35
            go_wp2
            go_ret
            exact ⟨rfl, chg_one _ _⟩
        · have e3 : (k == 3) = false := by rw [beq_eq_false_iff_ne]; exact h3
          have g3 : decide (k = 3) = false := decide_eq_false h3
          by_cases c0 : 2 ≤ l
          · have d0 : decide (2 ≤ l) = true := decide_eq_true c0
            by_cases c1 : l ≤ 273
            · have d1 : decide (l ≤ 273) = true := decide_eq_true c1
              have hF : formed ⟨k, y, l, d⟩ = 6 := by unfold formed; simp only; rw [if_neg (by omega), if_neg (by omega), if_neg (by omega)]
              rw [hF]
              clear hF
              go_enter Tryd.func35, Tryd.ntmps35
              go_wp2
              go_ret
              exact ⟨rfl, chg_one _ _⟩
            · have d1 : decide (l ≤ 273) = false := decide_eq_false c1
              have hF : formed ⟨k, y, l, d⟩ = 6 := by unfold formed; simp only; rw [if_neg (by omega), if_neg (by omega), if_neg (by omega)]
              rw [hF]
              clear hF
              go_enter Tryd.func35, Tryd.ntmps35
              go_wp2
              go_ret
              exact ⟨rfl, chg_one _ _⟩
          · have d0 : decide (2 ≤ l) = false := decide_eq_false c0
            have hF : formed ⟨k, y, l, d⟩ = 6 := by unfold formed; simp only; rw [if_neg (by omega), if_neg (by omega), if_neg (by omega)]
            rw [hF]
            clear hF
            go_enter Tryd.func35, Tryd.ntmps35
            go_wp2
            go_ret
            exact ⟨rfl, chg_one _ _⟩
set_option maxHeartbeats 4000000 in
theorem moved_q (n k : Int) (hn : 0 ≤ n ∧ n ≤ 11) (i2 : I64 k) (w : World) : Calls Tryd.prog 36 #[.int .i64 n, .int .i64 k] w fun e w' => e = .returned (.int .i64 (mvd n k)) ∧ w' = w := by
  obtain ⟨n1, n2⟩ := hn
  by_cases h1 : k = 1
  · subst h1
    by_cases c4 : n < 4
    · have d4 : decide (n < 4) = true := decide_eq_true c4
      have hF : mvd n 1 = 0 := by unfold mvd; rw [if_pos rfl, if_pos c4]
      rw [hF]
      clear hF
      go_enter Tryd.func36, Tryd.ntmps36
      go_wp2
      go_ret
      exact ⟨rfl, rfl⟩
    · have d4 : decide (n < 4) = false := decide_eq_false c4
      by_cases c10 : n < 10
      · have d10 : decide (n < 10) = true := decide_eq_true c10
        have hF : mvd n 1 = n - 3 := by unfold mvd; rw [if_pos rfl, if_neg c4, if_pos c10]
        rw [hF]
        clear hF
        go_enter Tryd.func36, Tryd.ntmps36
        go_wp2
        go_ret
        exact ⟨rfl, rfl⟩
      · have d10 : decide (n < 10) = false := decide_eq_false c10
        have hF : mvd n 1 = n - 6 := by unfold mvd; rw [if_pos rfl, if_neg c4, if_neg c10]
        rw [hF]
        clear hF
        go_enter Tryd.func36, Tryd.ntmps36
        go_wp2
        go_ret
        exact ⟨rfl, rfl⟩
  · have e1 : (k == 1) = false := by rw [beq_eq_false_iff_ne]; exact h1
    have g1 : decide (k = 1) = false := decide_eq_false h1
    by_cases h4 : k = 4
    · subst h4
      by_cases c7 : 7 ≤ n
      · have d7 : decide (7 ≤ n) = true := decide_eq_true c7
        have hF : mvd n 4 = 11 := by unfold mvd; rw [if_neg (by decide), if_pos c7, if_neg (by decide)]
        rw [hF]
        clear hF
        go_enter Tryd.func36, Tryd.ntmps36
        go_wp2
        go_ret
        exact ⟨rfl, rfl⟩
      · have d7 : decide (7 ≤ n) = false := decide_eq_false c7
        have hF : mvd n 4 = 9 := by unfold mvd; rw [if_neg (by decide), if_neg c7, if_neg (by decide), if_neg (by decide)]
        rw [hF]
        clear hF
        go_enter Tryd.func36, Tryd.ntmps36
        go_wp2
        go_ret
        exact ⟨rfl, rfl⟩
    · have e4 : (k == 4) = false := by rw [beq_eq_false_iff_ne]; exact h4
      have g4 : decide (k = 4) = false := decide_eq_false h4
      by_cases h2 : k = 2
      · subst h2
        by_cases c7 : 7 ≤ n
        · have d7 : decide (7 ≤ n) = true := decide_eq_true c7
          have hF : mvd n 2 = 10 := by unfold mvd; rw [if_neg (by decide), if_pos c7, if_pos rfl]
          rw [hF]
          clear hF
          go_enter Tryd.func36, Tryd.ntmps36
          go_wp2
          go_ret
          exact ⟨rfl, rfl⟩
        · have d7 : decide (7 ≤ n) = false := decide_eq_false c7
          have hF : mvd n 2 = 7 := by unfold mvd; rw [if_neg (by decide), if_neg c7, if_pos rfl]
          rw [hF]
          clear hF
          go_enter Tryd.func36, Tryd.ntmps36
          go_wp2
          go_ret
          exact ⟨rfl, rfl⟩
      · have e2 : (k == 2) = false := by rw [beq_eq_false_iff_ne]; exact h2
        have g2 : decide (k = 2) = false := decide_eq_false h2
        by_cases h3 : k = 3
        · subst h3
          by_cases c7 : 7 ≤ n
          · have d7 : decide (7 ≤ n) = true := decide_eq_true c7
            have hF : mvd n 3 = 11 := by unfold mvd; rw [if_neg (by decide), if_pos c7, if_neg (by decide)]
            rw [hF]
            clear hF
            go_enter Tryd.func36, Tryd.ntmps36
            go_wp2
            go_ret
            exact ⟨rfl, rfl⟩
          · have d7 : decide (7 ≤ n) = false := decide_eq_false c7
            have hF : mvd n 3 = 8 := by unfold mvd; rw [if_neg (by decide), if_neg c7, if_neg (by decide), if_pos rfl]
            rw [hF]
            clear hF
            go_enter Tryd.func36, Tryd.ntmps36
            go_wp2
            go_ret
            exact ⟨rfl, rfl⟩
        · have e3 : (k == 3) = false := by rw [beq_eq_false_iff_ne]; exact h3
          have g3 : decide (k = 3) = false := decide_eq_false h3
          by_cases c7 : 7 ≤ n
          · have d7 : decide (7 ≤ n) = true := decide_eq_true c7
            have hF : mvd n k = 11 := by unfold mvd; rw [if_neg h1, if_pos c7, if_neg h2]
            rw [hF]
            clear hF
            go_enter Tryd.func36, Tryd.ntmps36
            go_wp2
            go_ret
            exact ⟨rfl, rfl⟩
          · have d7 : decide (7 ≤ n) = false := decide_eq_false c7
            have hF : mvd n k = 9 := by unfold mvd; rw [if_neg h1, if_neg c7, if_neg h2, if_neg h3]
            rw [hF]
            clear hF
            go_enter Tryd.func36, Tryd.ntmps36
            go_wp2
            go_ret
            exact ⟨rfl, rfl⟩
theorem cells5f {w : World} {a : Nat} {x0 x1 x2 x3 x4 : Value} {t : TypeId} (h : w.heap[a]? = some (.cells #[x0, x1, x2, x3, x4] t (0, 0))) : (w.frozen? ⟨a, 0, none⟩ = false ∧ w.frozen? ⟨a, 1, none⟩ = false ∧ w.frozen? ⟨a, 2, none⟩ = false ∧ w.frozen? ⟨a, 3, none⟩ = false ∧ w.frozen? ⟨a, 4, none⟩ = false) :=
  ⟨by simp [World.frozen?, h], by simp [World.frozen?, h], by simp [World.frozen?, h], by simp [World.frozen?, h], by simp [World.frozen?, h]⟩
/-- The distance number i. -/
def repI (s : Stt) (i : Nat) : Int := match i with | 0 => s.a | 1 => s.b | 2 => s.c | _ => s.d
theorem right_iff (s : Stt) : right s ↔ (0 ≤ s.n ∧ s.n ≤ 11) ∧ ∀ i, i < 4 → okR (repI s i) := by
  unfold right
  constructor
  · rintro ⟨h, a, b, c, d⟩
    refine ⟨h, fun i hi => ?_⟩
    rcases i with _ | _ | _ | _ | i
    · exact a
    · exact b
    · exact c
    · exact d
    · omega
  · rintro ⟨h, f⟩
    exact ⟨h, f 0 (by omega), f 1 (by omega), f 2 (by omega), f 3 (by omega)⟩
theorem rep_cell {w : World} {g : Nat} {s : Stt} {t : TypeId} (h : w.heap[g]? = some (.cells #[.int .i64 s.n, .int .i64 s.a, .int .i64 s.b, .int .i64 s.c, .int .i64 s.d] t (0, 0))) {i : Nat} (hi : i < 4) : w.cell? ⟨g, 1 + i, none⟩ = some (.int .i64 (repI s i)) := by
  rcases i with _ | _ | _ | _ | i
  · simp [World.cell?, h, repI]
  · simp [World.cell?, h, repI]
  · simp [World.cell?, h, repI]
  · simp [World.cell?, h, repI]
  · omega
set_option maxHeartbeats 2000000 in
theorem rright_q (s : Stt) (hs : s.I) (w : World) : Calls Tryd.prog 34 #[stv s] w fun e w' => e = .returned (.bool (decide (right s))) ∧ Chg (fun _ => False) w w' := by
  have cB := chg_one w (.cells #[.int .i64 s.n, .int .i64 s.a, .int .i64 s.b, .int .i64 s.c, .int .i64 s.d] 56)
  have hbk := heap_alloc_last w (.cells #[.int .i64 s.n, .int .i64 s.a, .int .i64 s.b, .int .i64 s.c, .int .i64 s.d] 56)
  have HK : Hid _ := hbk
  have HC : Hid _ := cB
  clear hbk cB
  unfold stv
  go_enter Tryd.func34, Tryd.ntmps34
  go_wp2_with fail
  generalize w.alloc (.cells #[.int .i64 s.n, .int .i64 s.a, .int .i64 s.b, .int .i64 s.c, .int .i64 s.d] 56) = W at *
  go_loopw [3] (fun v wr => ∃ i : Nat, i ≤ 4 ∧ v = .int .i64 (i : Int) ∧ wr = W ∧ Hid (∀ j, j < i → okR (repI s j))) (fun v _ => 4 - (intOf v).toNat)
  case atStart => exact ⟨0, by omega, rfl, rfl, fun j hj => by omega⟩
  case round =>
    obtain ⟨i, hi, rfl, rfl, HI⟩ := hrel
    have hii : (i : Int) ≤ 4 := by omega
    by_cases h4 : i < 4
    · have hd : decide ((i : Int) < 4) = true := by simp; omega
      have hd' : decide (i < 4) = true := decide_eq_true h4
      have kc := rep_cell HK.out h4
      obtain ⟨r, hr⟩ : ∃ r, repI s i = r := ⟨_, rfl⟩
      rw [hr] at kc
      have HR : Hid (repI s i = r) := hr
      clear hr
      by_cases c1 : r < 1
      · have d1 : decide (r < 1) = true := decide_eq_true c1
        have HF : Hid (decide (right s) = false) := decide_eq_false (fun h => by
          have := ((right_iff s).1 h).2 i h4
          rw [HR.out] at this
          have := this.1
          omega)
        go_wp2
        go_ret
        exact ⟨by rw [HF.out]; rfl, HC.out⟩
      · have d1 : decide (r < 1) = false := decide_eq_false c1
        by_cases c2 : 4294967295 < r
        · have d2 : decide (4294967295 < r) = true := decide_eq_true c2
          have HF : Hid (decide (right s) = false) := decide_eq_false (fun h => by
            have := ((right_iff s).1 h).2 i h4
            rw [HR.out] at this
            have := this.2
            omega)
          go_wp2
          go_ret
          exact ⟨by rw [HF.out]; rfl, HC.out⟩
        · have d2 : decide (4294967295 < r) = false := decide_eq_false c2
          have HN : Hid (∀ j, j < i + 1 → okR (repI s j)) := fun j hj => by
            by_cases e : j = i
            · subst e; rw [HR.out]; exact ⟨by omega, by omega⟩
            · exact HI.out j (by omega)
          go_wp2_with fail
          go_roundw
          case rel => exact ⟨i + 1, by omega, by go_num, trivial, HN.out⟩
          case measure => simp [intOf]; omega
    · have hd : decide ((i : Int) < 4) = false := by simp; omega
      have hd' : decide (i < 4) = false := decide_eq_false h4
      have kn : wr.cell? ⟨w.heap.size, 0, none⟩ = some (.int .i64 s.n) := (cells5 HK.out).1
      have HA : Hid (∀ j, j < 4 → okR (repI s j)) := fun j hj => HI.out j (by omega)
      by_cases c1 : 0 ≤ s.n
      · have d1 : decide (0 ≤ s.n) = true := decide_eq_true c1
        have HF : Hid (decide (right s) = decide (s.n ≤ 11)) := decide_eq_decide.2 ⟨fun h => ((right_iff s).1 h).1.2, fun h => (right_iff s).2 ⟨⟨c1, h⟩, HA.out⟩⟩
        go_wp2
        go_ret
        exact ⟨by rw [HF.out]; rfl, HC.out⟩
      · have d1 : decide (0 ≤ s.n) = false := decide_eq_false c1
        have HF : Hid (decide (right s) = false) := decide_eq_false (fun h => c1 ((right_iff s).1 h).1.1)
        go_wp2
        go_ret
        exact ⟨by rw [HF.out]; rfl, HC.out⟩
end Go.Proofs.YtkochonjfjlhpaaDoor
