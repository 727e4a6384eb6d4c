/- Several texts in one, none of a statement by itself: Lay, Va, Vb, Vc, Vd, Ve, Vf, Vg. -/
import Derived.Test.YtlnocjicmofjfaaDoorBoundD
import Derived.ProofKit
import Derived.LaidMore
import Derived.OpenShut
import Derived.Stop.Joined
import Derived.SizedLaws
import Derived.Laws.MathBits
import Derived.Laws.IdiomStrings
import Derived.Laws.BitsAllLaws
import Derived.Deep.DeepCutAuto
/- The tables that the program's own text lays; of no statement by itself. -/
namespace Go.Proofs.YtlnocjicmofjfaaDoor
open Go.ChangeShapes Go.WideShapes Go.ChangeAt Go.WideMaps Go.WideElems Go.RowKit
set_option linter.unusedVariables false

/-- An array of whole numbers that reads so lies so. -/
theorem ints_lie {W : World} {m : Nat} {t e : TypeId} {q : IntKind} {cs : List Value} {l : List Int} {f : Nat} {p : List MemPlace} {H : Type} {enc : TypeId × Value → H} {sp : TypeId → Bool} {held : Bool} (hu : Tryd.prog.underlying t = some (.array m e)) (he : Tryd.prog.underlying e = some (.int q)) (hce : Tryd.prog.cellsOf e = 1) (hct : Tryd.prog.cellsOf t = m)
    {d : DataW H} (hde : d = .agg (l.map fun (x : Int) => .lit (.int q x))) (hd : DataW.trod enc Tryd.prog W 0 sp held f t cs = some (d, p)) : cs = l.map (Value.int q) := by
  subst hde
  obtain ⟨xs, k, rfl, hx, hlen, hn, hel⟩ := DataW.trod_array hu hd
  simp only [Prod.mk.injEq, DataW.agg.injEq] at hx
  have hl : l.length = m := by
    have := congrArg List.length hx.1
    simp only [List.length_map] at this
    omega
  apply List.ext_getElem
  · rw [hlen, hct, List.length_map, hl]
  · intro i h1 h2
    have hi : i < m := by rw [List.length_map, hl] at h2; exact h2
    have h0 := hel i hi
    rw [hce, Nat.mul_one] at h0
    obtain ⟨y, hy⟩ : ∃ y, xs[i]? = some y := ⟨xs[i]'(by omega), List.getElem?_eq_getElem _⟩
    rw [hy] at h0
    obtain ⟨z, e1, e2, _⟩ := DataW.trod_int he h0
    have hz : (xs.map (·.1))[i]? = some (.lit (.int q z)) := by rw [List.getElem?_map, hy, e2]; rfl
    rw [← hx.1, List.getElem?_map, List.getElem?_eq_getElem (by omega)] at hz
    simp only [Option.map_some, Option.some.injEq, DataW.lit.injEq, Lit.int.injEq, true_and] at hz
    have h3 : ((cs.drop i).take 1)[0]? = some (.int q z) := by rw [e1]; rfl
    have h4 : cs[i]? = some (.int q z) := by simpa using h3
    have h5 : cs[i] = .int q z := by simpa [h1] using h4
    rw [h5, ← hz]
    simp
theorem flat_lie {f : Int → Value} {m : Nat} : ∀ (ll : List (List Int)) (cs : List Value), cs.length = ll.length * m → (∀ i l, ll[i]? = some l → (cs.drop (i * m)).take m = l.map f) → cs = ll.flatten.map f
  | [], cs, hl, _ => by
    have : cs.length = 0 := by simpa using hl
    simpa using this
  | l :: ll, cs, hl, h => by
    have h0 := h 0 l rfl
    rw [Nat.zero_mul, List.drop_zero] at h0
    have hr := flat_lie (f := f) (m := m) ll (cs.drop m) (by rw [List.length_drop, hl, List.length_cons, Nat.add_mul, Nat.one_mul]; omega) (fun i l' hi => by
      have := h (i + 1) l' hi
      rw [List.drop_drop]
      rw [show m + i * m = (i + 1) * m by rw [Nat.add_mul, Nat.one_mul, Nat.add_comm]]
      exact this)
    rw [List.flatten_cons, List.map_append, ← h0, ← hr, List.take_append_drop]
/-- An array of such arrays. -/
theorem rows_lie {W : World} {n m : Nat} {t t1 e : TypeId} {q : IntKind} {cs : List Value} {ll : List (List Int)} {f : Nat} {p : List MemPlace} {H : Type} {enc : TypeId × Value → H} {sp : TypeId → Bool} {held : Bool} (hu : Tryd.prog.underlying t = some (.array n t1)) (hu1 : Tryd.prog.underlying t1 = some (.array m e)) (he : Tryd.prog.underlying e = some (.int q)) (hce : Tryd.prog.cellsOf e = 1) (hc1 : Tryd.prog.cellsOf t1 = m) (hct : Tryd.prog.cellsOf t = n * m)
    {d : DataW H} (hde : d = .agg (ll.map fun l => .agg (l.map fun (x : Int) => .lit (.int q x)))) (hd : DataW.trod enc Tryd.prog W 0 sp held f t cs = some (d, p)) : cs = ll.flatten.map (Value.int q) := by
  subst hde
  obtain ⟨xs, k, rfl, hx, hlen, hn, hel⟩ := DataW.trod_array hu hd
  simp only [Prod.mk.injEq, DataW.agg.injEq] at hx
  have hl : ll.length = n := by
    have := congrArg List.length hx.1
    simp only [List.length_map] at this
    omega
  refine flat_lie (m := m) ll cs (by rw [hlen, hct, hl]) (fun i l hi => ?_)
  have hin : i < n := by have := (List.getElem?_eq_some_iff.1 hi).1; omega
  have h0 := hel i hin
  rw [hc1] at h0
  obtain ⟨y, hy⟩ : ∃ y, xs[i]? = some y := ⟨xs[i]'(by omega), List.getElem?_eq_getElem _⟩
  rw [hy] at h0
  have hz : (xs.map (·.1))[i]? = some y.1 := by rw [List.getElem?_map, hy]; rfl
  rw [← hx.1, List.getElem?_map, hi] at hz
  simp only [Option.map_some, Option.some.injEq] at hz
  exact ints_lie hu1 he hce hc1 (d := y.1) (p := y.2) hz.symm h0
theorem var_lie {W : World} {g : Nat} {name : String} {cs : Array Value} {l : List Value} (hg : Tryd.prog.globalNamed name = some g) (hv : W.var? Tryd.prog name = some cs) (h : cs.toList = l) : ∃ ty fr, W.heap[g]? = some (.cells l.toArray ty fr) := by
  simp only [World.var?, hg, Option.bind_some] at hv
  cases hq : W.heap[g]? with
  | none => rw [hq] at hv; cases hv
  | some o =>
    cases o with
    | cells c ty fr =>
      rw [hq] at hv
      simp only [Option.some.injEq] at hv
      exact ⟨ty, fr, by rw [hv, ← h]⟩
    | _ => rw [hq] at hv; cases hv
/-- pith/state.moves, as it is laid. -/
def tab0 : List (List Int) := [[0, 0, 0, 0, 1, 2, 3, 4, 5, 6, 4, 5], [7, 7, 7, 7, 7, 7, 7, 10, 10, 10, 10, 10], [8, 8, 8, 8, 8, 8, 8, 11, 11, 11, 11, 11], [9, 9, 9, 9, 9, 9, 9, 11, 11, 11, 11, 11]]
theorem gtab0 : Tryd.prog.globalNamed "pith/state.moves" = some 0 := by kernel_rfl
theorem ttab0 : (Tryd.prog.globals[0]?).map (·.type) = some 81 := by kernel_rfl
theorem ltab0 {H : Type} : (Rows.laid_pith_state_moves : DataW H) = .agg (tab0.map fun l => .agg (l.map fun (x : Int) => .lit (.int .i64 x))) := rfl
/-- The tables lie there. -/
def Tab (w : World) : Prop := (∃ ty fr, w.heap[0]? = some (.cells (tab0.flatten.map (Value.int .i64)).toArray ty fr))
theorem tab_keep {w w' : World} (h : Tab w) (hc : Chg (fun _ => False) w w') : Tab w' := by
  obtain ⟨y0, r0, h0⟩ := h
  exact ⟨y0, r0, blk_keep h0 hc (fun f => f)⟩
theorem tab_of_laid {W : World} (h : laidMetH Tryd.prog [("pith/state.moves", Rows.laid_pith_state_moves)] W) : Tab W := by
  rw [MakeChecks.laidMetH_plain _ _ _ (by kernel_rfl)] at h
  obtain ⟨ps, ⟨g0, t0, cs0, f0, p0, q0, hg0, ht0, hv0, hd0, _⟩, _, _⟩ := h
  obtain rfl := Option.some.inj (gtab0.symm.trans hg0)
  obtain rfl := Option.some.inj (ttab0.symm.trans ht0)
  exact var_lie gtab0 hv0 (rows_lie Tryd.underlying81 Tryd.underlying80 Tryd.underlying3 (by kernel_rfl) (by kernel_rfl) (by kernel_rfl) ltab0 hd0)
theorem tab_all : ∀ (k : Fin 4) (n : Fin 12), tab0.flatten[(fun k n : Nat => k * 12 + n) k.val n.val]? = some (St12.mvd (n.val : Int) ((k.val : Int) + 1)) := by decide +kernel
/-- A move out of the table. -/
theorem tab_move {w : World} (h : Tab w) {k n : Nat} (hk : k < 4) (hn : n < 12) : w.cell? ⟨0, k * 12 + n, none⟩ = some (.int .i64 (St12.mvd (n : Int) ((k : Int) + 1))) := by
  obtain ⟨ty, fr, hb⟩ := h
  have h1 := tab_all ⟨k, hk⟩ ⟨n, hn⟩
  simp only at h1
  simp only [World.cell?, hb]
  rw [List.getElem?_toArray, List.getElem?_map, h1]
  rfl
end Go.Proofs.YtlnocjicmofjfaaDoor

/- The program's small questions; of no statement by themselves. -/
namespace Go.Proofs.YtlnocjicmofjfaaDoor
open Go.RowKit
open St12
set_option linter.unusedVariables false
set_option linter.unusedSimpArgs false

theorem isdist_q (d : Int) (w : World) : Calls Tryd.prog 55 #[.int .i64 d] w fun e w' => e = .returned (.bool (decide (okR d))) ∧ w' = w := by
  by_cases h0 : 1 ≤ d
  · have d0 : decide (1 ≤ d) = true := decide_eq_true h0
    have e : decide (okR d) = decide (d ≤ 4294967295) := by unfold okR; simp [h0]
    rw [e]
    go_enter Tryd.func55, Tryd.ntmps55
    go_wp2
    go_ret
    exact ⟨rfl, rfl⟩
  · have d0 : decide (1 ≤ d) = false := decide_eq_false h0
    have e : decide (okR d) = false := decide_eq_false (fun h => h0 h.1)
    rw [e]
    go_enter Tryd.func55, Tryd.ntmps55
    go_wp2
    go_ret
    exact ⟨rfl, rfl⟩
theorem islen_q (n : Int) (w : World) : Calls Tryd.prog 56 #[.int .i64 n] w fun e w' => e = .returned (.bool (decide (2 ≤ n ∧ n ≤ 273))) ∧ w' = w := by
  by_cases h0 : 2 ≤ n
  · have d0 : decide (2 ≤ n) = true := decide_eq_true h0
    have e : decide (2 ≤ n ∧ n ≤ 273) = decide (n ≤ 273) := by simp [h0]
    rw [e]
    go_enter Tryd.func56, Tryd.ntmps56
    go_wp2
    go_ret
    exact ⟨rfl, rfl⟩
  · have d0 : decide (2 ≤ n) = false := decide_eq_false h0
    have e : decide (2 ≤ n ∧ n ≤ 273) = false := decide_eq_false (fun h => h0 h.1)
    rw [e]
    go_enter Tryd.func56, Tryd.ntmps56
    go_wp2
    go_ret
    exact ⟨rfl, rfl⟩
theorem known_q (n : Int) (w : World) : Calls Tryd.prog 38 #[.int .i64 n] w fun e w' => e = .returned (.bool (decide (1 ≤ n ∧ n ≤ 4))) ∧ w' = w := by
  by_cases h0 : 1 ≤ n
  · have d0 : decide (1 ≤ n) = true := decide_eq_true h0
    have e : decide (1 ≤ n ∧ n ≤ 4) = decide (n ≤ 4) := by simp [h0]
    rw [e]
    go_enter Tryd.func38, Tryd.ntmps38
    go_wp2
    go_ret
    exact ⟨rfl, rfl⟩
  · have d0 : decide (1 ≤ n) = false := decide_eq_false h0
    have e : decide (1 ≤ n ∧ n ≤ 4) = false := decide_eq_false (fun h => h0 h.1)
    rw [e]
    go_enter Tryd.func38, Tryd.ntmps38
    go_wp2
    go_ret
    exact ⟨rfl, rfl⟩
theorem tnew_q (w : World) : Calls Tryd.prog 11 #[] w fun e w' => e = .returned (stv st0) ∧ Chg (fun _ => False) w w' := by
  have cB := chg_one w (.cells #[.int .i64 0, .int .i64 1, .int .i64 1, .int .i64 1, .int .i64 1] 30)
  obtain ⟨k0, k1, k2, k3, k4⟩ := cells5 (heap_alloc_last w (.cells #[.int .i64 0, .int .i64 1, .int .i64 1, .int .i64 1, .int .i64 1] 30))
  go_enter Tryd.func11, Tryd.ntmps11
  go_wp2
  refine bodyPost_ret (v := stv st0) (by simp [results, Tryd.results11, go_sem, k0, k1, k2, k3, k4, stv, st0]) rfl ?_
  exact ⟨rfl, cB⟩
end Go.Proofs.YtlnocjicmofjfaaDoor

/- Is a state right, is a symbol formed: the program's; of no statement by themselves. -/
namespace Go.Proofs.YtlnocjicmofjfaaDoor
open Go.RowKit
open St12
set_option linter.unusedVariables false
set_option linter.unusedSimpArgs false

set_option maxHeartbeats 2000000 in
theorem tright_q (s : Stt) (hs : s.I) (w : World) : Calls Tryd.prog 37 #[stv s] w fun e w' => e = .returned (.bool (decide (right s))) ∧ Chg (fun _ => False) w w' := by
  have cB := chg_one w (.cells #[.int .i64 s.n, .int .i64 s.a, .int .i64 s.b, .int .i64 s.c, .int .i64 s.d] 30)
  obtain ⟨k0, k1, k2, k3, k4⟩ := cells5 (heap_alloc_last w (.cells #[.int .i64 s.n, .int .i64 s.a, .int .i64 s.b, .int .i64 s.c, .int .i64 s.d] 30))
  have HC : Hid _ := cB
  have HD : Hid (∀ d w, Calls Tryd.prog 55 #[.int .i64 d] w fun e w' => e = .returned (.bool (decide (okR d))) ∧ w' = w) := isdist_q
  clear cB
  unfold stv
  go_enter Tryd.func37, Tryd.ntmps37
  go_wp2_with fail
  have HK0 : Hid _ := k0
  generalize w.alloc (.cells #[.int .i64 s.n, .int .i64 s.a, .int .i64 s.b, .int .i64 s.c, .int .i64 s.d] 30) = W at *
  clear k0 k1 k2 k3 k4
  go_loopw [7] (fun v wr => ∃ i : Nat, i ≤ 4 ∧ v = .int .i64 (i : Int) ∧ wr = W ∧ Hid (∀ j, j < i → okR (repI s j))) (fun v _ => 4 - (intOf v).toNat)
  case atStart => exact ⟨0, by omega, rfl, rfl, fun j hj => by omega⟩
  case round =>
    obtain ⟨i, hi, rfl, rfl, HI⟩ := hrel
    have hii : (i : Int) ≤ 4 := by omega
    by_cases h4 : i < 4
    · have hd : decide ((i : Int) < 4) = true := by simp; omega
      have hd' : decide (i < 4) = true := decide_eq_true h4
      obtain ⟨r, hr⟩ : ∃ r, repI s i = r := ⟨_, rfl⟩
      have HR : Hid (repI s i = r) := hr
      have hix : ∀ ww : World, (Instr.index 28 (.agg #[.int .i64 s.a, .int .i64 s.b, .int .i64 s.c, .int .i64 s.d]) (.int .i64 (i : Int))).run Tryd.prog ww = .ok (.int .i64 r) ww := fun ww => by
        rw [← hr]
        rcases i with _ | _ | _ | _ | i
        · kernel_rfl
        · kernel_rfl
        · kernel_rfl
        · kernel_rfl
        · omega
      clear hr
      go_wp2_with fail
      refine (HD.out r _).mono ?_
      rintro z w1 ⟨rfl, rfl⟩
      by_cases c1 : okR r
      · rw [decide_eq_true c1]
        have HN : Hid (∀ j, j < i + 1 → okR (repI s j)) := fun j hj => by
          by_cases e : j = i
          · subst e; rw [HR.out]; exact c1
          · exact HI.out j (by omega)
        clear c1
        go_wp2_with fail
        exact ⟨⟨i + 1, by omega, by go_num, trivial, HN.out⟩, by simp [intOf]; omega⟩
      · rw [decide_eq_false c1]
        have HF : Hid (decide (right s) = false) := decide_eq_false (fun h => by
          have := ((right_iff s).1 h).2 i h4
          rw [HR.out] at this
          exact c1 this)
        clear c1
        go_wp2
        go_ret
        exact ⟨by rw [HF.out]; rfl, HC.out⟩
    · have hd : decide ((i : Int) < 4) = false := by simp; omega
      have hd' : decide (i < 4) = false := decide_eq_false h4
      have HA : Hid (∀ j, j < 4 → okR (repI s j)) := fun j hj => HI.out j (by omega)
      have k0 := HK0.out
      by_cases c1 : 0 ≤ s.n
      · have d1 : decide (0 ≤ s.n) = true := decide_eq_true c1
        have HF : Hid (decide (right s) = decide (s.n < 12)) := decide_eq_decide.2 ⟨fun h => by have := ((right_iff s).1 h).1.2; omega, fun h => (right_iff s).2 ⟨⟨c1, by omega⟩, HA.out⟩⟩
        go_wp2
        go_ret
        exact ⟨by rw [HF.out]; rfl, HC.out⟩
      · have d1 : decide (0 ≤ s.n) = false := decide_eq_false c1
        have HF : Hid (decide (right s) = false) := decide_eq_false (fun h => c1 ((right_iff s).1 h).1.1)
        go_wp2
        go_ret
        exact ⟨by rw [HF.out]; rfl, HC.out⟩
end Go.Proofs.YtlnocjicmofjfaaDoor

/- Is a symbol formed: the program's; of no statement by itself. -/
namespace Go.Proofs.YtlnocjicmofjfaaDoor
open Go.RowKit
open St12
set_option linter.unusedVariables false
set_option linter.unusedSimpArgs false

def fmd (y : Sym) : Bool := if y.k = 2 then decide ((2 ≤ y.l ∧ y.l ≤ 273) ∧ okR y.d) else if y.k = 3 then decide ((2 ≤ y.l ∧ y.l ≤ 273) ∧ 0 ≤ y.d ∧ y.d ≤ 3) else true
theorem cells4z {w : World} {a : Nat} {x y z u : Value} {t : TypeId} (h : w.heap[a]? = some (.cells #[x, y, z, u] t (0, 0))) : w.cell? ⟨a, 0, none⟩ = some x ∧ w.cell? ⟨a, 1, none⟩ = some y ∧ w.cell? ⟨a, 2, none⟩ = some z ∧ w.cell? ⟨a, 3, none⟩ = some u :=
  ⟨by simp [World.cell?, h], by simp [World.cell?, h], by simp [World.cell?, h], by simp [World.cell?, h]⟩
set_option maxHeartbeats 2000000 in
theorem tformed_q (k yb yl yd : Int) (w : World) : Calls Tryd.prog 39 #[.agg #[.int .i64 k, .int .u8 yb, .int .i64 yl, .int .i64 yd]] w fun e w' => e = .returned (.bool (fmd ⟨k, yb, yl, yd⟩)) ∧ Chg (fun _ => False) w w' := by
  have cB := chg_one w (.cells #[.int .i64 k, .int .u8 yb, .int .i64 yl, .int .i64 yd] 33)
  obtain ⟨k0, k1, k2, k3⟩ := cells4z (heap_alloc_last w (.cells #[.int .i64 k, .int .u8 yb, .int .i64 yl, .int .i64 yd] 33))
  have HC : Hid _ := cB
  have HD : Hid (∀ d w, Calls Tryd.prog 55 #[.int .i64 d] w fun e w' => e = .returned (.bool (decide (okR d))) ∧ w' = w) := isdist_q
  have HL : Hid (∀ d w, Calls Tryd.prog 56 #[.int .i64 d] w fun e w' => e = .returned (.bool (decide (2 ≤ d ∧ d ≤ 273))) ∧ w' = w) := islen_q
  clear cB
  by_cases h2 : k = 2
  · subst h2
    have HF : Hid (fmd ⟨2, yb, yl, yd⟩ = decide ((2 ≤ yl ∧ yl ≤ 273) ∧ okR yd)) := rfl
    go_enter Tryd.func39, Tryd.ntmps39
    go_wp2_with fail
    generalize w.alloc (.cells #[.int .i64 2, .int .u8 yb, .int .i64 yl, .int .i64 yd] 33) = W at *
    refine (HL.out yl _).mono ?_
    rintro z w1 ⟨rfl, rfl⟩
    by_cases t : 2 ≤ yl ∧ yl ≤ 273
    · rw [decide_eq_true t]
      have HG : Hid (fmd ⟨2, yb, yl, yd⟩ = decide (okR yd)) := HF.out.trans (by simp [t])
      clear t HF
      go_wp2_with fail
      refine (HD.out yd _).mono ?_
      rintro z w1 ⟨rfl, rfl⟩
      go_wp2
      go_ret
      exact ⟨by rw [HG.out]; rfl, HC.out⟩
    · rw [decide_eq_false t]
      have HG : Hid (fmd ⟨2, yb, yl, yd⟩ = false) := HF.out.trans (decide_eq_false (fun h => t h.1))
      clear t HF
      go_wp2
      go_ret
      exact ⟨by rw [HG.out]; rfl, HC.out⟩
  by_cases h3 : k = 3
  · subst h3
    have HF : Hid (fmd ⟨3, yb, yl, yd⟩ = decide ((2 ≤ yl ∧ yl ≤ 273) ∧ 0 ≤ yd ∧ yd ≤ 3)) := rfl
    go_enter Tryd.func39, Tryd.ntmps39
    go_wp2_with fail
    generalize w.alloc (.cells #[.int .i64 3, .int .u8 yb, .int .i64 yl, .int .i64 yd] 33) = W at *
    refine (HL.out yl _).mono ?_
    rintro z w1 ⟨rfl, rfl⟩
    by_cases t : 2 ≤ yl ∧ yl ≤ 273
    · rw [decide_eq_true t]
      by_cases c1 : 0 ≤ yd
      · have d1 : decide (0 ≤ yd) = true := decide_eq_true c1
        have HG : Hid (fmd ⟨3, yb, yl, yd⟩ = decide (yd ≤ 3)) := HF.out.trans (by simp [t, c1])
        clear t HF
        go_wp2
        go_ret
        exact ⟨by rw [HG.out]; rfl, HC.out⟩
      · have d1 : decide (0 ≤ yd) = false := decide_eq_false c1
        have HG : Hid (fmd ⟨3, yb, yl, yd⟩ = false) := HF.out.trans (decide_eq_false (fun h => c1 h.2.1))
        clear t HF
        go_wp2
        go_ret
        exact ⟨by rw [HG.out]; rfl, HC.out⟩
    · rw [decide_eq_false t]
      have HG : Hid (fmd ⟨3, yb, yl, yd⟩ = false) := HF.out.trans (decide_eq_false (fun h => t h.1))
      clear t HF
      go_wp2
      go_ret
      exact ⟨by rw [HG.out]; rfl, HC.out⟩
  have d2 : (k == 2) = false := by simp [h2]
  have d3 : (k == 3) = false := by simp [h3]
  have HF : Hid (fmd ⟨k, yb, yl, yd⟩ = true) := by show fmd _ = true; unfold fmd; simp [h2, h3]
  go_enter Tryd.func39, Tryd.ntmps39
  go_wp2
  go_ret
  exact ⟨by rw [HF.out]; rfl, HC.out⟩
/-- What stands in the way of a symbol, by what the program asks. -/
theorem formed_of {y : Sym} : formed y = if ¬ (1 ≤ y.k ∧ y.k ≤ 4) then 6 else if fmd y = false then 7 else 0 := by
  obtain ⟨k, yb, yl, yd⟩ := y
  unfold formed fmd okR
  simp only
  by_cases h1 : k = 1
  · subst h1; simp
  by_cases h2 : k = 2
  · subst h2
    by_cases h : (2 ≤ yl ∧ yl ≤ 273) ∧ 1 ≤ yd ∧ yd ≤ 4294967295
    · simp [h]
    · rw [decide_eq_false h, if_neg (by omega), if_pos rfl, if_neg h, if_neg (by omega), if_pos rfl, if_pos rfl]
  by_cases h3 : k = 3
  · subst h3
    by_cases h : (2 ≤ yl ∧ yl ≤ 273) ∧ 0 ≤ yd ∧ yd ≤ 3
    · simp [h]
    · rw [decide_eq_false h, if_neg (show ¬ ((3 : Int) = 1 ∨ (3 : Int) = 4) by omega), if_neg (show ¬ (3 : Int) = 2 by omega), if_pos rfl, if_neg h]
      simp
  by_cases h4 : k = 4
  · subst h4; simp
  rw [if_neg (by omega), if_neg h2, if_neg h3, if_pos (by omega)]
end Go.Proofs.YtlnocjicmofjfaaDoor

/- The program's properties; of no statement by itself. -/
namespace Go.Proofs.YtlnocjicmofjfaaDoor
open Go.RowKit
open St12
set_option linter.unusedVariables false
set_option linter.unusedSimpArgs false

theorem cells3c {w : World} {a : Nat} {x y z : Value} {t : TypeId} (h : w.heap[a]? = some (.cells #[x, y, z] t (0, 0))) : w.cell? ⟨a, 0, none⟩ = some x ∧ w.cell? ⟨a, 1, none⟩ = some y ∧ w.cell? ⟨a, 2, none⟩ = some z :=
  ⟨by simp [World.cell?, h], by simp [World.cell?, h], by simp [World.cell?, h]⟩
end Go.Proofs.YtlnocjicmofjfaaDoor

/- The program's properties of a byte; of no statement by itself. -/
namespace Go.Proofs.YtlnocjicmofjfaaDoor
open Go.RowKit
open St12
set_option linter.unusedVariables false
set_option linter.unusedSimpArgs false

end Go.Proofs.YtlnocjicmofjfaaDoor

/- The program's slots; of no statement by itself. -/
namespace Go.Proofs.YtlnocjicmofjfaaDoor
open Go.RowKit
open St12
set_option linter.unusedVariables false
set_option linter.unusedSimpArgs false

theorem wrap_low (n : Nat) {bt : Nat} (hb : bt ≤ 30) : wrap64 ((2 + (n : Int) % 2) * 2 ^ bt) = (((2 + n % 2) * 2 ^ bt : Nat) : Int) := by
  have hp : 2 ^ bt ≤ 1073741824 := by
    have := Nat.pow_le_pow_right (n := 2) (by omega) hb
    simpa using this
  rw [pow_int]
  generalize 2 ^ bt = P at *
  have h2 : (n : Int) % 2 = ((n % 2 : Nat) : Int) := by omega
  rw [h2]
  have h3 : n % 2 < 2 := Nat.mod_lt _ (by omega)
  generalize n % 2 = c at *
  have h4 : (2 + (c : Int)) * (P : Int) = (((2 + c) * P : Nat) : Int) := by simp
  have h5 : (2 + c) * P ≤ 3 * P := Nat.mul_le_mul_right _ (by omega)
  rw [h4]
  generalize (2 + c) * P = Q at *
  unfold wrap64
  omega
end Go.Proofs.YtlnocjicmofjfaaDoor

/- How many binary digits a number has: the standard library's; of no statement by itself. -/
namespace Go.Proofs.YtlnocjicmofjfaaDoor
open Go.RowKit
open St12
set_option linter.unusedVariables false
set_option linter.unusedSimpArgs false
/-- How many digits each byte has. -/
def lenTab : ByteArray := ⟨#[0, 1, 2, 2, 3, 3, 3, 3, 4, 4, 4, 4, 4, 4, 4, 4, 5, 5, 5, 5, 5, 5, 5, 5, 5, 5, 5, 5, 5, 5, 5, 5, 6, 6, 6, 6, 6, 6, 6, 6, 6, 6, 6, 6, 6, 6, 6, 6, 6, 6, 6, 6, 6, 6, 6, 6, 6, 6, 6, 6, 6, 6, 6, 6, 7, 7, 7, 7, 7, 7, 7, 7, 7, 7, 7, 7, 7, 7, 7, 7, 7, 7, 7, 7, 7, 7, 7, 7, 7, 7, 7, 7, 7, 7, 7, 7, 7, 7, 7, 7, 7, 7, 7, 7, 7, 7, 7, 7, 7, 7, 7, 7, 7, 7, 7, 7, 7, 7, 7, 7, 7, 7, 7, 7, 7, 7, 7, 7, 8, 8, 8, 8, 8, 8, 8, 8, 8, 8, 8, 8, 8, 8, 8, 8, 8, 8, 8, 8, 8, 8, 8, 8, 8, 8, 8, 8, 8, 8, 8, 8, 8, 8, 8, 8, 8, 8, 8, 8, 8, 8, 8, 8, 8, 8, 8, 8, 8, 8, 8, 8, 8, 8, 8, 8, 8, 8, 8, 8, 8, 8, 8, 8, 8, 8, 8, 8, 8, 8, 8, 8, 8, 8, 8, 8, 8, 8, 8, 8, 8, 8, 8, 8, 8, 8, 8, 8, 8, 8, 8, 8, 8, 8, 8, 8, 8, 8, 8, 8, 8, 8, 8, 8, 8, 8, 8, 8, 8, 8, 8, 8, 8, 8, 8, 8, 8, 8, 8, 8, 8, 8, 8, 8, 8, 8, 8, 8]⟩
theorem run_len8 (y : Int) (h0 : 0 ≤ y) (h1 : y < 256) (L : Int) (hL : L = (bitLen y.toNat : Int)) (w : World) : (Instr.index 9 (.string lenTab) (.int .u8 y)).run Tryd.prog w = .ok (.int .u8 L) w := by
  have hsz : lenTab.size = 256 := by decide +kernel
  have hlt : y.toNat < lenTab.size := by omega
  rw [run_index_string w 9 lenTab .u8 y Tryd.underlying9, dif_pos ⟨h0, by omega⟩, hL]
  have := len8tab_get y.toNat hlt
  congr 3
theorem and_1 (n : Int) : bits .and .i64 n 1 = n % 2 := by
  have h1 : (BitVec.ofInt 64 1).toNat = 2 ^ 1 - 1 := by decide
  have key : (BitVec.ofInt 64 n &&& BitVec.ofInt 64 1).toNat = (n % ((2 ^ 64 : Nat) : Int)).toNat % 2 ^ 1 := by
    rw [BitVec.toNat_and, BitVec.toNat_ofInt, h1, Nat.and_two_pow_sub_one_eq_mod]
  show IntKind.i64.wrap ((BitVec.ofInt 64 n &&& BitVec.ofInt 64 1).toNat : Nat) = n % 2
  rw [key, IntKind.wrap_i64]
  omega
theorem shr_nat (m i : Nat) : ((m : Int) / 2 ^ i) = ((m / 2 ^ i : Nat) : Int) := by simp
end Go.Proofs.YtlnocjicmofjfaaDoor
