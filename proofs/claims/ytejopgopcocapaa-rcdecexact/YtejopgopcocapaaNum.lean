/- The contracts of within, Next, Bound, costOfZero, Cost; of no statement by themselves. -/
import Derived.Test.YtejopgopcocapaaBase
import Derived.Test.YtejopgopcocapaaProb
namespace Go.Proofs.Ytejopgopcocapaa
open Go.RowKit
set_option linter.unusedVariables false

/-- A number of 64 bits. -/
def I64 (p : Int) : Prop := -9223372036854775808 ≤ p ∧ p ≤ 9223372036854775807

theorem within_any (p : Int) (w : World) (hp : I64 p) : Calls Try.prog 52 #[.int .i64 p] w fun e w' => e = .returned (.int .i64 (Prob.cl p)) ∧ w = w' := by
  have h1 := hp.1
  have h2 := hp.2
  go_enter Try.func52, Try.ntmps52
  go_wp2
  all_goals
    go_ret
    refine ⟨?_, rfl⟩
    unfold Prob.cl
    congr 2
    repeat' split
    all_goals first | rfl | (exfalso; rename_i hh _; revert hh; split <;> omega) | omega

theorem next_any (p b : Int) (w : World) (hp : I64 p) : Calls Try.prog 53 #[.int .i64 p, .int .i64 b] w fun e w' => e = .returned (.int .i64 (Prob.nx p b)) ∧ w = w' := by
  have l := Prob.cl_lo p
  have r := Prob.cl_hi p
  have HN : Hid (Prob.nx p b = if b = 0 then Prob.cl p + (2048 - Prob.cl p) / 32 else Prob.cl p - Prob.cl p / 32) := rfl
  go_enter Try.func53, Try.ntmps53
  go_wp2_with fail
  refine (within_any p _ hp).mono ?_
  rintro e w1 ⟨rfl, rfl⟩
  generalize Prob.cl p = q at *
  by_cases hb : b = 0
  · go_wp2
    go_ret
    exact ⟨by rw [HN.out, if_pos hb]; rfl, rfl⟩
  · go_wp2
    go_ret
    exact ⟨by rw [HN.out, if_neg hb]; rfl, rfl⟩

/-- A number of 32 bits. -/
def U32 (r : Int) : Prop := 0 ≤ r ∧ r ≤ 4294967295

theorem bound_any (r p : Int) (w : World) (hr : U32 r) (hp : I64 p) : Calls Try.prog 40 #[.int .u32 r, .int .i64 p] w fun e w' => e = .returned (.int .u32 (Prob.bo r p)) ∧ w = w' := by
  have l := Prob.cl_lo p
  have h := Prob.cl_hi p
  have h1 := hr.1
  have h2 := hr.2
  have HN : Hid (Prob.bo r p = r / 2048 * Prob.cl p) := rfl
  have b1 := (Prob.bo_in r p h1).1
  have b2 := (Prob.bo_in r p h1).2
  rw [HN.out] at b1 b2
  go_enter Try.func40, Try.ntmps40
  go_wp2_with fail
  refine (within_any p _ hp).mono ?_
  rintro e w1 ⟨rfl, rfl⟩
  generalize Prob.cl p = q at *
  generalize hm : r / 2048 * q = m at *
  go_wp2
  go_ret
  exact ⟨by rw [HN.out]; rfl, rfl⟩

theorem sq_in {W : Int} (h : 0 ≤ W) (h2 : W < 65536) : 0 ≤ W * W ∧ W * W < 4294967296 := by
  have e : W * W ≤ 65535 * 65535 := Int.mul_le_mul (by omega) (by omega) h (by omega)
  have e0 : 0 ≤ W * W := Int.mul_nonneg h h
  omega

end Go.Proofs.Ytejopgopcocapaa
