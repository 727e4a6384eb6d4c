/- Structs and arrays that are compared; of no statement by itself. -/
import Derived.Test.YtoeimahlielklaaDoorSv
namespace Go.Proofs.YtoeimahlielklaaDoor
open Go.RowKit
set_option linter.unusedVariables false

theorem equal_same (w : World) (d : Nat) (t e : TypeId) (n : Nat) (k : IntKind) (ht : Tryd.prog.underlying t = some (.array n e)) (he : Tryd.prog.underlying e = some (.int k)) (hsz : ∀ w, (sizeOf e).run Tryd.prog w = .ok 1 w) (xs : List Int) (hx : xs.length = n) :
    (Op.equalIn (d + 2) t (.agg (xs.map (Value.int k)).toArray) (.agg (xs.map (Value.int k)).toArray)).run Tryd.prog w = .ok true w := by
  rw [Op.equalIn]
  simp only [Sem.run_bind, run_underlying ht, Result.andThen_ok, hsz, Std.Legacy.Range.forIn_eq_forIn_range', Std.Legacy.Range.size, Nat.sub_zero, Nat.add_sub_cancel, Nat.div_one]
  have hl : ∀ i ∈ List.range' 0 n 1, i < n := fun i hi => by simpa using (List.mem_range'_1.1 hi).2
  generalize List.range' 0 n 1 = l at hl ⊢
  induction l with
  | nil => simp
  | cons i l ih =>
    have hi : i < n := hl i (by simp)
    have px : (part e (xs.map (Value.int k)).toArray (i * 1)).run Tryd.prog w = .ok (.int k (xs.getD i 0)) w := by
      simp [part, isAgg, run_underlying he, List.getD, List.getElem?_eq_getElem (show i < xs.length by omega)]
    have pe : (Op.equalIn (d + 1) e (.int k (xs.getD i 0)) (.int k (xs.getD i 0))).run Tryd.prog w = .ok true w := by
      rw [run_equalIn_int w d e k k _ _ he]
      simp
    simp only [List.forIn_cons, Sem.run_bind, px, pe, Result.andThen_ok]
    simp only [Bool.not_true, Bool.false_eq_true, if_false, Sem.run_pure, Result.andThen_ok]
    exact ih fun j hj => hl j (by simp [hj])

theorem one_size {e : TypeId} (h : (Tryd.prog.info? e).map (·.size) = some 1) : ∀ w, (sizeOf e).run Tryd.prog w = .ok 1 w := fun w => by
  cases hq : Tryd.prog.info? e with
  | none => simp [hq] at h
  | some i => simp [sizeOf, typeInfo, hq] at h ⊢; exact h

theorem same4 (w : World) (a b c d : Int) : (binOp .eql 34 (.agg #[.int .i64 a, .int .i64 b, .int .i64 c, .int .i64 d]) (.agg #[.int .i64 a, .int .i64 b, .int .i64 c, .int .i64 d])).run Tryd.prog w = .ok (.bool true) w := by
  have := equal_same w 9998 34 3 4 .i64 Tryd.underlying34 Tryd.underlying3 (one_size (by kernel_rfl)) [a, b, c, d] rfl
  rw [run_eql_struct, show (.agg #[.int .i64 a, .int .i64 b, .int .i64 c, .int .i64 d] : Value) = .agg ([a, b, c, d].map (Value.int .i64)).toArray from rfl, this]
  rfl
theorem nsame4 (w : World) (a b c d : Int) : (binOp .neq 34 (.agg #[.int .i64 a, .int .i64 b, .int .i64 c, .int .i64 d]) (.agg #[.int .i64 a, .int .i64 b, .int .i64 c, .int .i64 d])).run Tryd.prog w = .ok (.bool false) w := by
  have := equal_same w 9998 34 3 4 .i64 Tryd.underlying34 Tryd.underlying3 (one_size (by kernel_rfl)) [a, b, c, d] rfl
  rw [run_neq_struct, show (.agg #[.int .i64 a, .int .i64 b, .int .i64 c, .int .i64 d] : Value) = .agg ([a, b, c, d].map (Value.int .i64)).toArray from rfl, this]
  rfl
theorem zeroS (w : World) : (binOp .neq 36 (.agg #[.int .i64 0, .int .i64 0, .int .i64 0, .int .i64 0, .int .i64 0]) (.agg #[.int .i64 0, .int .i64 0, .int .i64 0, .int .i64 0, .int .i64 0])).run Tryd.prog w = .ok (.bool false) w := by kernel_rfl
end Go.Proofs.YtoeimahlielklaaDoor
