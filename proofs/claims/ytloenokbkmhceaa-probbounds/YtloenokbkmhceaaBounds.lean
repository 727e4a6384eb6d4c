/- The walk through ProbBounds; of no statement by itself. -/
import Derived.Test.YtloenokbkmhceaaFixed
namespace Go.Proofs.Ytloenokbkmhceaa
open Go.RowKit
set_option linter.unusedVariables false

/-- A list of bools in memory. -/
def Bools (w : World) (a : Option Addr) (n : Nat) : Prop := ∀ k, k < n → ∃ x, a = some x ∧ ∃ b, w.cell? (x.add k) = some (.bool b)
theorem Bools.new {w w' : World} {a : Option Addr} {n : Nat} (h : Bools w a n) (hc : Chg (fun _ => False) w w') : Bools w' a n := fun k hk => by
  obtain ⟨x, e, b, hb⟩ := h k hk
  exact ⟨x, e, b, cell_chg hb hc⟩

theorem one_set (p q : Int) : [p].set 0 q = [q] := rfl
theorem in1 {p : Int} (h : 31 ≤ p) (h2 : p ≤ 2017) : In [p] := fun q hq => by simp at hq; omega

set_option maxHeartbeats 4000000 in
set_option maxRecDepth 100000 in
theorem bounds_any (a : Option Addr) (n c : Nat) (w0 : World) (hB : Bools w0 a n) (hn : n ≤ 9223372036854775807) : Calls Try.prog 4 #[.slice a n c] w0 fun e w' => e = .returned (.bool true) ∧ Chg (fun _ => False) w0 w' := by
  have HB : Hid (Bools w0 a n) := hB
  clear hB
  go_enter Try.func4, Try.ntmps4
  go_wp2_with fail
  refine (new_in 1 _ (by omega)).mono ?_
  rintro e w1 ⟨s, v, rfl, hs, h1, c1⟩
  have h1' : St w1 w0.heap.size s v [1024] := h1
  clear h1
  go_wp2_with fail
  go_loopw [6, 5] (fun i p wr => ∃ (k : Nat) (P : Int), k ≤ n ∧ i = .int .i64 k ∧ p = .int .i64 P ∧ 31 ≤ P ∧ P ≤ 2017 ∧ St wr w0.heap.size s v [P] ∧ Chg (fun _ => False) w0 wr) (fun i _ _ => n - (intOf i).toNat)
  case atStart => exact ⟨0, 1024, Nat.zero_le _, rfl, rfl, by omega, by omega, h1', c1⟩
  case round =>
    clear h1' c1
    obtain ⟨k, P, hk, rfl, rfl, hP1, hP2, h1, c1⟩ := hrel
    by_cases hlt : k < n
    · obtain ⟨x, ea, b, hb⟩ := (HB.out.new c1) k hlt
      subst ea
      cases b with
      | false =>
        have N1 := (Prob.nx_lo (b := 0) hP1 hP2).1
        have N2 := (Prob.nx_lo (b := 0) hP1 hP2).2
        have H1 : Hid (St wr w0.heap.size s v [P]) := h1
        have HC : Hid (Chg (fun _ => False) w0 wr) := c1
        clear h1 c1
        go_wp2_with fail
        refine (turn_in _ s v [P] 0 0 _ H1.out (in1 hP1 hP2) (by simp)).mono ?_
        rintro e w2 ⟨rfl, h2, c2⟩
        have H2 : Hid (St w2 w0.heap.size s v [Prob.nx P 0]) := h2
        have HC2 : Hid (Chg (fun _ => False) w0 w2) := HC.out.trans c2 (fun i e => .inr (H1.out.own.lt i e).1)
        clear h2 c2 HC H1
        go_wp2_with fail
        refine (next_any P 0 _ ⟨by omega, by omega⟩).mono ?_
        rintro e w3 ⟨rfl, rfl⟩
        generalize Prob.nx P 0 = Q at *
        have K0 := Prob.co0 (p := Q) (by omega) (by omega)
        have K1 := Prob.co1 (p := Q) (b := 1) (by decide) (by omega) (by omega)
        have q0 := Prob.cost_in (p := Q) N1 N2
        have q1 := Prob.cost_in2 (p := 2047 - Q) (by omega) (by omega)
        rw [← K0] at q0
        rw [← K1] at q1
        clear K0 K1
        go_wp2_with fail
        refine (at_in _ s v [Q] 0 _ H2.out (in1 N1 N2) (by simp)).mono ?_
        rintro e w3 ⟨rfl, rfl⟩
        rw [show [Q][0] = Q from rfl]
        go_wp2_with fail
        refine (cost_any Q 0 _ ⟨by omega, by omega⟩).mono ?_
        rintro e w3 ⟨rfl, rfl⟩
        go_wp2_with fail
        refine (paid_any _ _ q0.1 q0.2).mono ?_
        rintro e w3 ⟨rfl, rfl⟩
        go_wp2_with fail
        refine (cost_any Q 1 _ ⟨by omega, by omega⟩).mono ?_
        rintro e w3 ⟨rfl, rfl⟩
        go_wp2_with fail
        refine (paid_any _ _ q1.1 q1.2).mono ?_
        rintro e w3 ⟨rfl, rfl⟩
        go_wp2
        go_roundw
        case rel => exact ⟨k + 1, Q, by omega, by go_num, rfl, N1, N2, H2.out, HC2.out⟩
        case measure => simp [intOf]; omega
      | true =>
        have N1 := (Prob.nx_lo (b := 1) hP1 hP2).1
        have N2 := (Prob.nx_lo (b := 1) hP1 hP2).2
        have H1 : Hid (St wr w0.heap.size s v [P]) := h1
        have HC : Hid (Chg (fun _ => False) w0 wr) := c1
        clear h1 c1
        go_wp2_with fail
        refine (turn_in _ s v [P] 0 1 _ H1.out (in1 hP1 hP2) (by simp)).mono ?_
        rintro e w2 ⟨rfl, h2, c2⟩
        have H2 : Hid (St w2 w0.heap.size s v [Prob.nx P 1]) := h2
        have HC2 : Hid (Chg (fun _ => False) w0 w2) := HC.out.trans c2 (fun i e => .inr (H1.out.own.lt i e).1)
        clear h2 c2 HC H1
        go_wp2_with fail
        refine (next_any P 1 _ ⟨by omega, by omega⟩).mono ?_
        rintro e w3 ⟨rfl, rfl⟩
        generalize Prob.nx P 1 = Q at *
        have K0 := Prob.co0 (p := Q) (by omega) (by omega)
        have K1 := Prob.co1 (p := Q) (b := 1) (by decide) (by omega) (by omega)
        have q0 := Prob.cost_in (p := Q) N1 N2
        have q1 := Prob.cost_in2 (p := 2047 - Q) (by omega) (by omega)
        rw [← K0] at q0
        rw [← K1] at q1
        clear K0 K1
        go_wp2_with fail
        refine (at_in _ s v [Q] 0 _ H2.out (in1 N1 N2) (by simp)).mono ?_
        rintro e w3 ⟨rfl, rfl⟩
        rw [show [Q][0] = Q from rfl]
        go_wp2_with fail
        refine (cost_any Q 0 _ ⟨by omega, by omega⟩).mono ?_
        rintro e w3 ⟨rfl, rfl⟩
        go_wp2_with fail
        refine (paid_any _ _ q0.1 q0.2).mono ?_
        rintro e w3 ⟨rfl, rfl⟩
        go_wp2_with fail
        refine (cost_any Q 1 _ ⟨by omega, by omega⟩).mono ?_
        rintro e w3 ⟨rfl, rfl⟩
        go_wp2_with fail
        refine (paid_any _ _ q1.1 q1.2).mono ?_
        rintro e w3 ⟨rfl, rfl⟩
        go_wp2
        go_roundw
        case rel => exact ⟨k + 1, Q, by omega, by go_num, rfl, N1, N2, H2.out, HC2.out⟩
        case measure => simp [intOf]; omega
    · obtain rfl : k = n := by omega
      clear h1
      have HC : Hid (Chg (fun _ => False) w0 wr) := c1
      clear c1
      go_wp2_with fail
      go_loop [12, 5, 11] (fun i p l => ∃ (j : Nat) (X Y : Int), j ≤ 300 ∧ i = .int .i64 j ∧ p = .int .i64 X ∧ l = .int .i64 Y ∧ Prob.ups j ≤ X ∧ X ≤ 2017 ∧ 31 ≤ X ∧ 31 ≤ Y ∧ Y ≤ Prob.dns j ∧ Y ≤ 2017) (fun i _ _ => 300 - (intOf i).toNat)
      case atStart => exact ⟨0, P, P, by omega, rfl, rfl, rfl, by show 31 ≤ P; omega, by omega, by omega, by omega, by show P ≤ 2017; omega, by omega⟩
      case round =>
        obtain ⟨j, X, Y, hj, rfl, rfl, rfl, hX1, hX2, hX3, hY1, hY2, hY3⟩ := hrel
        by_cases hlt2 : j < 300
        · have X1 : Hid (Prob.ups (j + 1) ≤ Prob.nx X 0 ∧ 31 ≤ Prob.nx X 0 ∧ Prob.nx X 0 ≤ 2017) := ⟨by rw [Prob.nx0 (by omega) (by omega)]; exact Prob.up_le hX1, Prob.nx_lo hX3 hX2⟩
          have Y1 : Hid (Prob.nx Y 1 ≤ Prob.dns (j + 1) ∧ 31 ≤ Prob.nx Y 1 ∧ Prob.nx Y 1 ≤ 2017) := ⟨by rw [Prob.nx1 (by decide) (by omega) (by omega)]; exact Prob.dn_le hY2, Prob.nx_lo hY1 hY3⟩
          go_wp2_with fail
          refine (next_any X 0 _ ⟨by omega, by omega⟩).mono ?_
          rintro e w1 ⟨rfl, rfl⟩
          go_wp2_with fail
          refine (next_any Y 1 _ ⟨by omega, by omega⟩).mono ?_
          rintro e w1 ⟨rfl, rfl⟩
          go_wp2
          go_round
          case rel =>

            exact ⟨j + 1, _, _, by omega, by go_num, rfl, rfl, X1.out.1, X1.out.2.2, X1.out.2.1, Y1.out.2.1, Y1.out.1, Y1.out.2.2⟩
          case measure => simp [intOf]; omega
        · obtain rfl : j = 300 := by omega
          rw [Prob.ups_end] at hX1
          rw [Prob.dns_end] at hY2
          obtain rfl : X = 2017 := by omega
          obtain rfl : Y = 31 := by omega
          go_wp2_with fail
          refine (fixed_any _).mono ?_
          rintro e w3 ⟨rfl, c3⟩
          go_wp2
          go_ret
          exact ⟨rfl, chg_then HC.out c3⟩
end Go.Proofs.Ytloenokbkmhceaa
