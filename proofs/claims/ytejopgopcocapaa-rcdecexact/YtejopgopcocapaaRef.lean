/- The contracts of the document's own answer: bound, Next, Bound, cost, Cost; of no statement by themselves. -/
import Derived.Test.YtejopgopcocapaaNum
namespace Go.Proofs.Ytejopgopcocapaa
open Go.RowKit
set_option linter.unusedVariables false

theorem rbound_any (p : Int) (w : World) (hp : I64 p) : Calls Try.prog 54 #[.int .i64 p] w fun e w' => e = .returned (.int .i64 (Prob.cl p)) ∧ w = w' := by
  have h1 := hp.1
  have h2 := hp.2
  go_enter Try.func54, Try.ntmps54
  go_wp2
  all_goals
    go_ret
    refine ⟨?_, rfl⟩
    unfold Prob.cl
    congr 2
    repeat' split
    all_goals first | rfl | omega

theorem rnext_any (p b : Int) (w : World) (hp : I64 p) : Calls Try.prog 55 #[.int .i64 p, .int .i64 b] w fun e w' => e = .returned (.int .i64 (Prob.nx p b)) ∧ w = w' := by
  have l := Prob.cl_lo p
  have r := Prob.cl_hi p
  have HN : Hid (Prob.nx p b = if b = 0 then Prob.cl p + (2048 - Prob.cl p) / 32 else Prob.cl p - Prob.cl p / 32) := rfl
  go_enter Try.func55, Try.ntmps55
  go_wp2_with fail
  refine (rbound_any p _ hp).mono ?_
  rintro e w1 ⟨rfl, rfl⟩
  generalize Prob.cl p = q at *
  by_cases hb : b = 0
  · go_wp2
    go_ret
    exact ⟨by rw [HN.out, if_pos hb]; rfl, rfl⟩
  · go_wp2
    go_ret
    exact ⟨by rw [HN.out, if_neg hb]; rfl, rfl⟩

theorem rBound_any (r p : Int) (w : World) (hr : U32 r) (hp : I64 p) : Calls Try.prog 46 #[.int .u32 r, .int .i64 p] w fun e w' => e = .returned (.int .u32 (Prob.bo r p)) ∧ w = w' := by
  have l := Prob.cl_lo p
  have h := Prob.cl_hi p
  have h1 := hr.1
  have h2 := hr.2
  have HN : Hid (Prob.bo r p = r / 2048 * Prob.cl p) := rfl
  have b1 := (Prob.bo_in r p h1).1
  have b2 := (Prob.bo_in r p h1).2
  rw [HN.out] at b1 b2
  go_enter Try.func46, Try.ntmps46
  go_wp2_with fail
  refine (rbound_any p _ hp).mono ?_
  rintro e w1 ⟨rfl, rfl⟩
  generalize Prob.cl p = q at *
  generalize hm : r / 2048 * q = m at *
  go_wp2
  go_ret
  exact ⟨by rw [HN.out]; rfl, rfl⟩

end Go.Proofs.Ytejopgopcocapaa
