/- An array is equal to itself; of no statement by itself. -/
import Derived.Test.YtnedllhlmddmoabDoorTab
import Derived.Laws.StructEq
namespace Go.Proofs.YtnedllhlmddmoabDoor
open Go.RowKit

theorem equal_same (w : World) (d : Nat) (t e : TypeId) (n : Nat) (k : IntKind) (ht : Tryd.prog.underlying t = some (.array n e)) (he : Tryd.prog.underlying e = some (.int k)) (hsz : ∀ w, (sizeOf e).run Tryd.prog w = .ok 1 w) (xs : List Int) (hx : xs.length = n) :
    (Op.equalIn (d + 2) t (.agg (xs.map (Value.int k)).toArray) (.agg (xs.map (Value.int k)).toArray)).run Tryd.prog w = .ok true w := by
  rw [Op.equalIn]
  simp only [Sem.run_bind, run_underlying ht, Result.andThen_ok, hsz, Std.Legacy.Range.forIn_eq_forIn_range', Std.Legacy.Range.size, Nat.sub_zero, Nat.add_sub_cancel, Nat.div_one]
  have hl : ∀ i ∈ List.range' 0 n 1, i < n := fun i hi => by simpa using (List.mem_range'_1.1 hi).2
  generalize List.range' 0 n 1 = l at hl ⊢
  induction l with
  | nil => simp
  | cons i l ih =>
    have hi : i < n := hl i (by simp)
    have px : (part e (xs.map (Value.int k)).toArray (i * 1)).run Tryd.prog w = .ok (.int k (xs.getD i 0)) w := by
      simp [part, isAgg, run_underlying he, List.getD, List.getElem?_eq_getElem (show i < xs.length by omega)]
    have pe : (Op.equalIn (d + 1) e (.int k (xs.getD i 0)) (.int k (xs.getD i 0))).run Tryd.prog w = .ok true w := by
      rw [run_equalIn_int w d e k k _ _ he]
      simp
    simp only [List.forIn_cons, Sem.run_bind, px, pe, Result.andThen_ok]
    simp only [Bool.not_true, Bool.false_eq_true, if_false, Sem.run_pure, Result.andThen_ok]
    exact ih fun j hj => hl j (by simp [hj])

theorem one_size {e : TypeId} (h : (Tryd.prog.info? e).map (·.size) = some 1) : ∀ w, (sizeOf e).run Tryd.prog w = .ok 1 w := fun w => by
  cases hq : Tryd.prog.info? e with
  | none => simp [hq] at h
  | some i => simp [sizeOf, typeInfo, hq] at h ⊢; exact h

theorem same32 (w : World) (l : List Nat) (hl : l.length = 32) : (Op.equalIn 10000 27 (.agg (byts l).toArray) (.agg (byts l).toArray)).run Tryd.prog w = .ok true w := by
  have := equal_same w 9998 27 5 32 .u8 Tryd.underlying27 Tryd.underlying5 (one_size (by kernel_rfl)) (l.map fun (n : Nat) => (n : Int)) (by simpa using hl)
  simpa [byts, Function.comp_def] using this

theorem same8 (w : World) (l : List Nat) (hl : l.length = 8) : (Op.equalIn 10000 45 (.agg (wds l).toArray) (.agg (wds l).toArray)).run Tryd.prog w = .ok true w := by
  have := equal_same w 9998 45 44 8 .u32 Tryd.underlying45 Tryd.underlying44 (one_size (by kernel_rfl)) (l.map fun (n : Nat) => (n : Int)) (by simpa using hl)
  simpa [wds, Function.comp_def] using this
end Go.Proofs.YtnedllhlmddmoabDoor
