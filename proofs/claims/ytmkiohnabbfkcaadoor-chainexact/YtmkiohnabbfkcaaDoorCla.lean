/- The small questions of a chain: kinds of checks, properties, bounds; of no statement by themselves. -/
import Derived.Test.YtmkiohnabbfkcaaDoorCrv
import Derived.Deep.WholeRow
import Derived.Test.YtmkiohnabbfkcaaDoorVd
namespace Go.Proofs.YtmkiohnabbfkcaaDoor
open Go.RowKit
open St12
set_option linter.unusedVariables false
set_option linter.unusedSimpArgs false
theorem within20_q (n a b : Int) (w : World) : Calls Tryd.prog 34 #[.int .i64 n, .int .i64 a, .int .i64 b] w fun e w' => e = .returned (.bool (decide (a ≤ n ∧ n ≤ b))) ∧ w' = w := by
  by_cases h1 : a ≤ n
  · have e1 : decide (a ≤ n) = true := decide_eq_true h1
    by_cases h2 : n ≤ b
    · have e2 : decide (n ≤ b) = true := decide_eq_true h2
      have HE : Hid (decide (a ≤ n ∧ n ≤ b) = true) := decide_eq_true ⟨h1, h2⟩
      clear h1 h2
      go_enter Tryd.func34, Tryd.ntmps34
      go_wp2
      go_ret
      exact ⟨by rw [HE.out]; rfl, rfl⟩
    · have e2 : decide (n ≤ b) = false := decide_eq_false h2
      have HE : Hid (decide (a ≤ n ∧ n ≤ b) = false) := decide_eq_false (fun f => h2 f.2)
      clear h1 h2
      go_enter Tryd.func34, Tryd.ntmps34
      go_wp2
      go_ret
      exact ⟨by rw [HE.out]; rfl, rfl⟩
  · have e1 : decide (a ≤ n) = false := decide_eq_false h1
    have HE : Hid (decide (a ≤ n ∧ n ≤ b) = false) := decide_eq_false (fun f => h1 f.1)
    clear h1
    go_enter Tryd.func34, Tryd.ntmps34
    go_wp2
    go_ret
    exact ⟨by rw [HE.out]; rfl, rfl⟩
theorem isKind20_q (n : Int) (w : World) : Calls Tryd.prog 42 #[.int .i64 n] w fun e w' => e = .returned (.bool (decide (0 ≤ n ∧ n < 16))) ∧ w' = w := by
  by_cases h1 : 0 ≤ n
  · have e1 : decide (0 ≤ n) = true := decide_eq_true h1
    by_cases h2 : n < 16
    · have e2 : decide (n < 16) = true := decide_eq_true h2
      have HE : Hid (decide (0 ≤ n ∧ n < 16) = true) := decide_eq_true ⟨h1, h2⟩
      clear h1 h2
      go_enter Tryd.func42, Tryd.ntmps42
      go_wp2
      go_ret
      exact ⟨by rw [HE.out]; rfl, rfl⟩
    · have e2 : decide (n < 16) = false := decide_eq_false h2
      have HE : Hid (decide (0 ≤ n ∧ n < 16) = false) := decide_eq_false (fun f => h2 f.2)
      clear h1 h2
      go_enter Tryd.func42, Tryd.ntmps42
      go_wp2
      go_ret
      exact ⟨by rw [HE.out]; rfl, rfl⟩
  · have e1 : decide (0 ≤ n) = false := decide_eq_false h1
    have HE : Hid (decide (0 ≤ n ∧ n < 16) = false) := decide_eq_false (fun f => h1 f.1)
    clear h1
    go_enter Tryd.func42, Tryd.ntmps42
    go_wp2
    go_ret
    exact ⟨by rw [HE.out]; rfl, rfl⟩
/-- The table of makers. -/
def mk16 : Array Value := #[.func (.func 46) #[] #[], .func (.func 47) #[] #[], .nilFunc, .nilFunc, .func (.func 48) #[] #[], .nilFunc, .nilFunc, .nilFunc, .nilFunc, .nilFunc, .func (.func 49) #[] #[], .nilFunc, .nilFunc, .nilFunc, .nilFunc, .nilFunc]
theorem wpList_store_new {P : Program} {ops : Array Oper} {rest : List Oper} {op : Oper} {a : Act} {w : World} {Q : Exit → Act → World → Prop} (hgd : op.guard = none) (ty : TypeId) (x y : Operand) (ho : op.op = .store ty x y)
    (c cells : Array Value) (hx : a.eval x = .pointer (some ⟨w.heap.size, 0, none⟩)) (hy : a.eval y = .agg cells)
    (hi : (P.info? ty).map (·.size) = some cells.size) (hs : c.size = cells.size) (h1 : cells.all (·.oneCell') = true)
    (h : wpList P ops Q rest (a.put op.dst undef) (w.alloc (.cells cells ty))) : wpList P ops Q (op :: rest) a (w.alloc (.cells c ty)) :=
  wpList_plain hgd fun K hK => by
    unfold Oper.wp execOp
    simp only [ho, hx, hy, Sem.run_bind, Sem.run_pure, Result.andThen_ok, run_storeAt_new w ty c cells hi hs h1]
    exact hK _ _ h
theorem one16 : mk16.all (·.oneCell') = true := by decide +kernel
theorem res16 {P : Program} {fn : Func} {p : Tmp} {ty : TypeId} (h : fn.results = #[.cell p ty]) (tmps : Array Value) (w : World) {ad : Addr} {v : Value} (hp : (loadVar ty ad).run P w = .ok v w) (ha : tmps.getD p undef = .pointer (some ad) := by rfl) : (results fn tmps).run P w = .ok v w := by
  have e : tmps[p]?.getD undef = .pointer (some ad) := by simpa using ha
  simp only [results, h]
  simp [Sem.run_bind, Result.andThen, e, asAddr, hp]
theorem info16 : (Tryd.prog.info? 94).map (·.size) = some mk16.size := by kernel_rfl
set_option maxHeartbeats 4000000 in
set_option maxRecDepth 100000 in
theorem makers20_q (w : World) : Calls Tryd.prog 43 #[] w fun e w' => e = .returned (.agg mk16) ∧ w' = w.alloc (.cells mk16 94) := by
  have hld := run_loadVar_new (P := Tryd.prog) w 94 mk16 16 _ Tryd.underlying94 info16
  go_enter Tryd.func43, Tryd.ntmps43
  go_wp2_with (refine wpList_store_new rfl 94 (.tmp 0) (.tmp 1) rfl _ mk16 rfl rfl info16 rfl one16 ?_)
  go_wp2
  refine bodyPost_ret (v := .agg mk16) (res16 rfl _ _ hld) rfl ?_
  exact ⟨rfl, rfl⟩
end Go.Proofs.YtmkiohnabbfkcaaDoor
