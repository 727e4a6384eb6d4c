/- The law's small functions: num, sameFilters, known; of no statement by themselves. -/
import Derived.Test.YtmkiohnabbfkcaaDoorCsp
import Derived.BigQuiet
import Derived.BigRegion
import Derived.Deep.QuietTactic
namespace Go.Proofs.YtmkiohnabbfkcaaDoor
open Go.RowKit
set_option linter.unusedVariables false
set_option linter.unusedSimpArgs false
theorem num20_q (x : Int) (w : World) : Calls Tryd.prog 8 #[.int .i64 x] w fun e w' => e = .returned (.int .i64 x) ∧ w' = w := by
  go_enter Tryd.func8, Tryd.ntmps8
  go_wp2
  go_ret
  exact ⟨rfl, rfl⟩
theorem map_f_at2 {q l : List FlV} (h : q.map FlV.f = l.map FlV.f) {k : Nat} {x : FlV} (hx : l[k]? = some x) : ∃ y, q[k]? = some y ∧ y.id = x.id ∧ y.bs = x.bs := by
  have e : (q.map FlV.f)[k]? = some x.f := by rw [h, List.getElem?_map, hx]; rfl
  rw [List.getElem?_map] at e
  cases hq : q[k]? with
  | none => rw [hq] at e; cases e
  | some y =>
    rw [hq] at e
    simp only [Option.map_some, Option.some.injEq, FlV.f, Flt.mk.injEq] at e
    exact ⟨y, rfl, e.1, e.2⟩
set_option maxHeartbeats 8000000 in
set_option maxRecDepth 100000 in
theorem same20_any (w : World) (a1 a2 : Option Addr) (n c1 c2 : Nat) (q l : List FlV) (h1 : FlL w a1 q) (h2 : FlL w a2 l) (hl : l.length = n) (hq : q.map FlV.f = l.map FlV.f) (hn : n ≤ 4398046511104) : Calls Tryd.prog 14 #[.slice a1 n c1, .slice a2 n c2] w fun e w' => e = .returned (.bool true) ∧ Chg (fun _ => False) w w' := by
  have hql : q.length = n := by have := congrArg List.length hq; simpa [hl] using this
  have H1 : Hid (FlL w a1 q) := h1
  have H2 : Hid (FlL w a2 l) := h2
  have HLL : Hid (l.length = n) := hl
  have HQL : Hid (q.length = n) := hql
  have HQ : Hid (q.map FlV.f = l.map FlV.f) := hq
  have hni : (n : Int) ≤ 4398046511104 := by omega
  have y9 : ((n : Int) != (n : Int)) = false := by simp
  clear h1 h2 hl hql hq
  go_enter Tryd.func14, Tryd.ntmps14
  go_wp2_with fail
  go_loopw [13] (fun i wr => ∃ k : Nat, k ≤ n ∧ i = .int .i64 (k : Int) ∧ Hid (Chg (fun _ => False) w wr)) (fun i _ => n - (intOf i).toNat)
  case atStart => exact ⟨0, by omega, rfl, Chg.refl _ _⟩
  case round =>
    obtain ⟨k, hk, rfl, HC⟩ := hrel
    have hki : (k : Int) ≤ (n : Int) := by omega
    by_cases hlt : k < n
    · have d1 : decide ((k : Int) < (n : Int)) = true := decide_eq_true (by omega)
      have d1' : decide (k < n) = true := decide_eq_true hlt
      obtain ⟨x, b, off, hx, hok, rfl, x0, x1⟩ := H2.out.at (k := k) (by rw [HLL.out]; exact hlt)
      obtain ⟨y, hy, hid, hbs⟩ := map_f_at2 HQ.out hx
      obtain ⟨hyo, b', off', rfl, y0, y1⟩ := H1.out k y hy
      have hrx := hok.row
      have hry := hyo.row
      have hlx := hok.len
      have hly := hyo.len
      obtain ⟨id, xa, xn, xc, bs⟩ := x
      obtain ⟨yi, ya, yn, yc, ybs⟩ := y
      simp only at hid hbs x0 x1 y0 y1 hrx hry hlx hly
      subst hid hbs
      have hyn : yn = xn := by omega
      subst hyn
      clear hlx hly hok hyo hx hy
      replace x0 := cell_chg x0 HC.out
      replace x1 := cell_chg x1 HC.out
      replace y0 := cell_chg y0 HC.out
      replace y1 := cell_chg y1 HC.out
      have hcx : ∀ k, (convert 23 9 (.slice xa yn xc)).run Tryd.prog (wr.drewN k) = .ok (.string (strOfNums (nums ybs))) (wr.drewN k) := fun k => Bk.conv8 (Bk.row8_chg hrx HC.out) k
      have hcy : ∀ k, (convert 23 9 (.slice ya yn yc)).run Tryd.prog (wr.drewN k) = .ok (.string (strOfNums (nums ybs))) (wr.drewN k) := fun k => Bk.conv8 (Bk.row8_chg hry HC.out) k
      generalize strOfNums (nums ybs) = ST at *
      have hss : (ST.toList != ST.toList) = false := by simp
      have hii : ((yi : Int) != (yi : Int)) = false := by simp
      clear hrx hry
      go_upto_region 6 with fail
      go_quiet (fail)
      have HC9 : Hid (Chg (fun _ => False) w (wr.drewN nq)) := chg_then HC.out (chg_drewN wr nq)
      clear hcx hcy x0 x1 y0 y1
      go_wp2
      go_roundw
      case rel => exact ⟨k + 1, by omega, by go_num, HC9⟩
      case measure => simp [intOf]; omega
    · obtain rfl : k = n := by omega
      have d1 : decide ((k : Int) < (k : Int)) = false := decide_eq_false (by omega)
      go_wp2
      go_ret
      exact ⟨rfl, HC.out⟩
variable {Tab : World → Prop}
theorem vbn_300 : vbn 300 = [172, 2] := by decide +kernel
theorem vbn_2 : vbn 2 = [2] := by decide +kernel
theorem vbn_0 : vbn 0 = [0] := by decide +kernel
theorem fix_put : Cn20.putF ⟨300, [7, 8]⟩ = ([172, 2, 2, 7, 8], 0) := by
  rw [Cn20.put_ok (by decide)]
  simp [vbn_300, vbn_2]
theorem fix_read : Cn20.readF [⟨3, [255]⟩, ⟨33, [40]⟩] = (256, 4294967295, 0) := by decide +kernel
theorem fix_legal : Cn20.legal ⟨0, 0, 0, 0, 0, 0, 0, 0⟩ = 6 := by decide +kernel
end Go.Proofs.YtmkiohnabbfkcaaDoor
