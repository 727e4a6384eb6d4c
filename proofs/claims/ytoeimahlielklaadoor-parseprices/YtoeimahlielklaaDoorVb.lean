/- Is a state right, is a symbol formed: the program's; of no statement by themselves. -/
import Derived.Test.YtoeimahlielklaaDoorVa
namespace Go.Proofs.YtoeimahlielklaaDoor
open Go.RowKit
open St12
set_option linter.unusedVariables false
set_option linter.unusedSimpArgs false

set_option maxHeartbeats 2000000 in
theorem tright_q (s : Stt) (hs : s.I) (w : World) : Calls Tryd.prog 15 #[stv s] w fun e w' => e = .returned (.bool (decide (right s))) ∧ Chg (fun _ => False) w w' := by
  have cB := chg_one w (.cells #[.int .i64 s.n, .int .i64 s.a, .int .i64 s.b, .int .i64 s.c, .int .i64 s.d] 36)
  obtain ⟨k0, k1, k2, k3, k4⟩ := cells5 (heap_alloc_last w (.cells #[.int .i64 s.n, .int .i64 s.a, .int .i64 s.b, .int .i64 s.c, .int .i64 s.d] 36))
  have HC : Hid _ := cB
  have HD : Hid (∀ d w, Calls Tryd.prog 22 #[.int .i64 d] w fun e w' => e = .returned (.bool (decide (okR d))) ∧ w' = w) := isdist_q
  clear cB
  unfold stv
  go_enter Tryd.func15, Tryd.ntmps15
  go_wp2_with fail
  have HK0 : Hid _ := k0
  generalize w.alloc (.cells #[.int .i64 s.n, .int .i64 s.a, .int .i64 s.b, .int .i64 s.c, .int .i64 s.d] 36) = W at *
  clear k0 k1 k2 k3 k4
  go_loopw [7] (fun v wr => ∃ i : Nat, i ≤ 4 ∧ v = .int .i64 (i : Int) ∧ wr = W ∧ Hid (∀ j, j < i → okR (repI s j))) (fun v _ => 4 - (intOf v).toNat)
  case atStart => exact ⟨0, by omega, rfl, rfl, fun j hj => by omega⟩
  case round =>
    obtain ⟨i, hi, rfl, rfl, HI⟩ := hrel
    have hii : (i : Int) ≤ 4 := by omega
    by_cases h4 : i < 4
    · have hd : decide ((i : Int) < 4) = true := by simp; omega
      have hd' : decide (i < 4) = true := decide_eq_true h4
      obtain ⟨r, hr⟩ : ∃ r, repI s i = r := ⟨_, rfl⟩
      have HR : Hid (repI s i = r) := hr
      have hix : ∀ ww : World, (Instr.index 34 (.agg #[.int .i64 s.a, .int .i64 s.b, .int .i64 s.c, .int .i64 s.d]) (.int .i64 (i : Int))).run Tryd.prog ww = .ok (.int .i64 r) ww := fun ww => by
        rw [← hr]
        rcases i with _ | _ | _ | _ | i
        · kernel_rfl
        · kernel_rfl
        · kernel_rfl
        · kernel_rfl
        · omega
      clear hr
      go_wp2_with fail
      refine (HD.out r _).mono ?_
      rintro z w1 ⟨rfl, rfl⟩
      by_cases c1 : okR r
      · rw [decide_eq_true c1]
        have HN : Hid (∀ j, j < i + 1 → okR (repI s j)) := fun j hj => by
          by_cases e : j = i
          · subst e; rw [HR.out]; exact c1
          · exact HI.out j (by omega)
        clear c1
        go_wp2_with fail
        exact ⟨⟨i + 1, by omega, by go_num, trivial, HN.out⟩, by simp [intOf]; omega⟩
      · rw [decide_eq_false c1]
        have HF : Hid (decide (right s) = false) := decide_eq_false (fun h => by
          have := ((right_iff s).1 h).2 i h4
          rw [HR.out] at this
          exact c1 this)
        clear c1
        go_wp2
        go_ret
        exact ⟨by rw [HF.out]; rfl, HC.out⟩
    · have hd : decide ((i : Int) < 4) = false := by simp; omega
      have hd' : decide (i < 4) = false := decide_eq_false h4
      have HA : Hid (∀ j, j < 4 → okR (repI s j)) := fun j hj => HI.out j (by omega)
      have k0 := HK0.out
      by_cases c1 : 0 ≤ s.n
      · have d1 : decide (0 ≤ s.n) = true := decide_eq_true c1
        have HF : Hid (decide (right s) = decide (s.n < 12)) := decide_eq_decide.2 ⟨fun h => by have := ((right_iff s).1 h).1.2; omega, fun h => (right_iff s).2 ⟨⟨c1, by omega⟩, HA.out⟩⟩
        go_wp2
        go_ret
        exact ⟨by rw [HF.out]; rfl, HC.out⟩
      · have d1 : decide (0 ≤ s.n) = false := decide_eq_false c1
        have HF : Hid (decide (right s) = false) := decide_eq_false (fun h => c1 ((right_iff s).1 h).1.1)
        go_wp2
        go_ret
        exact ⟨by rw [HF.out]; rfl, HC.out⟩
end Go.Proofs.YtoeimahlielklaaDoor
