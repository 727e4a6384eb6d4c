/- The law's same and fixed; of no statement by themselves. -/
import Derived.Test.YtkncbanodpfccaaDoorBoundD
namespace Go.Proofs.YtkncbanodpfccaaDoor
open Go.RowKit
open St12
set_option linter.unusedVariables false
set_option linter.unusedSimpArgs false
theorem cells4h {w : World} {a : Nat} {x0 x1 x2 x3 : Value} {t : TypeId} (h : w.heap[a]? = some (.cells #[x0, x1, x2, x3] t (0, 0))) : w.cell? ⟨a, 0, none⟩ = some x0 ∧ w.cell? ⟨a, 1, none⟩ = some x1 ∧ w.cell? ⟨a, 2, none⟩ = some x2 ∧ w.cell? ⟨a, 3, none⟩ = some x3 :=
  ⟨by simp [World.cell?, h], by simp [World.cell?, h], by simp [World.cell?, h], by simp [World.cell?, h]⟩
theorem map_f_at3 {q l : List FlV} (h : q.map FlV.f = l.map FlV.f) {k : Nat} {x : FlV} (hx : l[k]? = some x) : ∃ y, q[k]? = some y ∧ y.id = x.id ∧ y.bs = x.bs := by
  have e : (q.map FlV.f)[k]? = some x.f := by rw [h, List.getElem?_map, hx]; rfl
  rw [List.getElem?_map] at e
  cases hq : q[k]? with
  | none => rw [hq] at e; cases e
  | some y =>
    rw [hq] at e
    simp only [Option.map_some, Option.some.injEq, FlV.f, Flt.mk.injEq] at e
    exact ⟨y, rfl, e.1, e.2⟩
set_option maxHeartbeats 8000000 in
set_option maxRecDepth 100000 in
theorem same21_any (w0 : World) (pk sz by_ : Int) (a1 a2 : Option Addr) (n c1 c2 : Nat) (q l : List FlV) (h1 : FlL w0 a1 q) (h2 : FlL w0 a2 l) (hl : l.length = n) (hq : q.map FlV.f = l.map FlV.f) (hn : n ≤ 4398046511104) : Calls Tryd.prog 13 #[hdv pk sz (.slice a1 n c1) by_, hdv pk sz (.slice a2 n c2) by_] w0 fun e w' => e = .returned (.bool true) ∧ Chg (fun _ => False) w0 w' := by
  unfold hdv
  have hql : q.length = n := by have := congrArg List.length hq; simpa [hl] using this
  have cA := chg_one w0 (.cells #[.int .i64 pk, .int .i64 sz, .slice a1 n c1, .int .i64 by_] 24)
  have bA := heap_alloc_last w0 (.cells #[.int .i64 pk, .int .i64 sz, .slice a1 n c1, .int .i64 by_] 24)
  obtain ⟨x0, x1, x2, x3⟩ := cells4h bA
  have cB := chg_one (w0.alloc (.cells #[.int .i64 pk, .int .i64 sz, .slice a1 n c1, .int .i64 by_] 24)) (.cells #[.int .i64 pk, .int .i64 sz, .slice a2 n c2, .int .i64 by_] 24)
  have bB := heap_alloc_last (w0.alloc (.cells #[.int .i64 pk, .int .i64 sz, .slice a1 n c1, .int .i64 by_] 24)) (.cells #[.int .i64 pk, .int .i64 sz, .slice a2 n c2, .int .i64 by_] 24)
  obtain ⟨y0, y1, y2, y3⟩ := cells4h bB
  rw [World.size_alloc] at y0 y1 y2 y3
  replace x0 := cell_chg x0 cB
  replace x1 := cell_chg x1 cB
  replace x2 := cell_chg x2 cB
  replace x3 := cell_chg x3 cB
  have hcc := chg_then cA cB
  have H1 : Hid (FlL ((w0.alloc (.cells #[.int .i64 pk, .int .i64 sz, .slice a1 n c1, .int .i64 by_] 24)).alloc (.cells #[.int .i64 pk, .int .i64 sz, .slice a2 n c2, .int .i64 by_] 24)) a1 q) := h1.new hcc
  have H2 : Hid (FlL ((w0.alloc (.cells #[.int .i64 pk, .int .i64 sz, .slice a1 n c1, .int .i64 by_] 24)).alloc (.cells #[.int .i64 pk, .int .i64 sz, .slice a2 n c2, .int .i64 by_] 24)) a2 l) := h2.new hcc
  have HC0 : Hid (Chg (fun _ => False) w0 ((w0.alloc (.cells #[.int .i64 pk, .int .i64 sz, .slice a1 n c1, .int .i64 by_] 24)).alloc (.cells #[.int .i64 pk, .int .i64 sz, .slice a2 n c2, .int .i64 by_] 24))) := hcc
  have HLL : Hid (l.length = n) := hl
  have HQL : Hid (q.length = n) := hql
  have HQ : Hid (q.map FlV.f = l.map FlV.f) := hq
  have hni : (n : Int) ≤ 4398046511104 := by omega
  have e0 : (pk != pk) = false := by simp
  have e1 : (sz != sz) = false := by simp
  have e2 : (by_ != by_) = false := by simp
  have e3 : ((n : Int) != (n : Int)) = false := by simp
  clear h1 h2 hl hql hq cA bA cB bB hcc
  go_enter Tryd.func13, Tryd.ntmps13
  go_upto_region 1 with fail
  generalize (w0.alloc (.cells #[.int .i64 pk, .int .i64 sz, .slice a1 n c1, .int .i64 by_] 24)).alloc (.cells #[.int .i64 pk, .int .i64 sz, .slice a2 n c2, .int .i64 by_] 24) = w at *
  go_wp2_with fail
  go_loopw [5] (fun i wr => ∃ k : Nat, k ≤ n ∧ i = .int .i64 (k : Int) ∧ Hid (Chg (fun _ => False) w wr)) (fun i _ => n - (intOf i).toNat)
  case atStart => exact ⟨0, by omega, rfl, Chg.refl _ _⟩
  case round =>
    obtain ⟨k, hk, rfl, HC⟩ := hrel
    have hki : (k : Int) ≤ (n : Int) := by omega
    replace x2 := cell_chg x2 HC.out
    replace y2 := cell_chg y2 HC.out
    by_cases hlt : k < n
    · have d1 : decide ((k : Int) < (n : Int)) = true := decide_eq_true (by omega)
      have d1' : decide (k < n) = true := decide_eq_true hlt
      obtain ⟨x, b, off, hx, hok, rfl, p0, p1⟩ := H2.out.at (k := k) (by rw [HLL.out]; exact hlt)
      obtain ⟨y, hy, hid, hbs⟩ := map_f_at3 HQ.out hx
      obtain ⟨hyo, b', off', rfl, r0, r1⟩ := H1.out k y hy
      have hrx := hok.row
      have hry := hyo.row
      have hlx := hok.len
      have hly := hyo.len
      obtain ⟨id, xa, xn, xc, bs⟩ := x
      obtain ⟨yi, ya, yn, yc, ybs⟩ := y
      simp only at hid hbs p0 p1 r0 r1 hrx hry hlx hly
      subst hid hbs
      have hyn : yn = xn := by omega
      subst hyn
      clear hlx hly hok hyo hx hy
      replace p0 := cell_chg p0 HC.out
      replace p1 := cell_chg p1 HC.out
      replace r0 := cell_chg r0 HC.out
      replace r1 := cell_chg r1 HC.out
      have hcx : ∀ k, (convert 25 9 (.slice xa yn xc)).run Tryd.prog (wr.drewN k) = .ok (.string (strOfNums (nums ybs))) (wr.drewN k) := fun k => Bk.conv8 (Bk.row8_chg hrx HC.out) k
      have hcy : ∀ k, (convert 25 9 (.slice ya yn yc)).run Tryd.prog (wr.drewN k) = .ok (.string (strOfNums (nums ybs))) (wr.drewN k) := fun k => Bk.conv8 (Bk.row8_chg hry HC.out) k
      generalize strOfNums (nums ybs) = ST at *
      have hss : (ST.toList != ST.toList) = false := by simp
      have hii : ((yi : Int) != (yi : Int)) = false := by simp
      clear hrx hry
      go_upto_region 6 with fail
      go_quiet (fail)
      have HC9 : Hid (Chg (fun _ => False) w (wr.drewN nq)) := chg_then HC.out (chg_drewN wr nq)
      clear hcx hcy p0 p1 r0 r1
      go_wp2
      go_roundw
      case rel => exact ⟨k + 1, by omega, by go_num, HC9⟩
      case measure => simp [intOf]; omega
    · obtain rfl : k = n := by omega
      have d1 : decide ((k : Int) < (k : Int)) = false := decide_eq_false (by omega)
      go_wp2
      go_ret
      exact ⟨rfl, chg_then HC0.out HC.out⟩
theorem row8_litH (w : World) (l : List Nat) (n : Nat) (t : TypeId) (hn : l.length = n) (vs : Array Value) (hv : vs.toList = (nums l).map (Value.int .u8)) : Row8 (w.alloc (.cells vs t)) (some ⟨w.heap.size, 0, none⟩) n n (nums l) := by
  refine ⟨by rw [nums_len, hn], .inr ⟨_, rfl, fun j u hu => ?_⟩⟩
  rw [addk, Nat.zero_add]
  simp only [World.cell?, heap_alloc_last]
  rw [← hv] at hu
  simpa using hu
theorem I64.lit3 {x : Int} (h : decide (-9223372036854775808 ≤ x) && decide (x ≤ 9223372036854775807) = true) : I64 x := by
  simp at h
  exact h
variable {Tab : World → Prop}
set_option maxHeartbeats 8000000 in
set_option maxRecDepth 100000 in
theorem fixed21_any (S : HeadSpec Tab) (w : World) (hT : Tab w) : Calls Tryd.prog 9 #[] w fun e w' => e = .returned (.bool true) ∧ Chg (fun _ => False) w w' := by
  have HT : Hid (Tab w) := hT
  have cA := chg_one w (.cells #[.int .u8 0] 5)
  have cB := chg_one (w.alloc (.cells #[.int .u8 0] 5)) (.cells #[.int .u64 33, .slice (some ⟨w.heap.size, 0, none⟩) 1 1] 54)
  have hra := Bk.row8_chg (row8_litH w [0] 1 5 rfl #[.int .u8 0] rfl) cB
  have hbB := heap_alloc_last (w.alloc (.cells #[.int .u8 0] 5)) (.cells #[.int .u64 33, .slice (some ⟨w.heap.size, 0, none⟩) 1 1] 54)
  rw [World.size_alloc] at hbB
  have hfl : FlL ((w.alloc (.cells #[.int .u8 0] 5)).alloc (.cells #[.int .u64 33, .slice (some ⟨w.heap.size, 0, none⟩) 1 1] 54)) (some ⟨w.heap.size + 1, 0, none⟩) [⟨33, some ⟨w.heap.size, 0, none⟩, 1, 1, [0]⟩] := fun k q hk => by
    match k, hk with
    | 0, hk =>
      simp at hk
      subst hk
      exact ⟨⟨by show (33 : Nat) < _; decide, hra, by intro x hx; simp at hx; omega, Nat.le_refl _, by show (1 : Nat) ≤ _; decide⟩, _, 0, rfl, cell0 hbB, cell1 hbB⟩
    | k + 1, hk => simp at hk
  have HF : Hid (FlL ((w.alloc (.cells #[.int .u8 0] 5)).alloc (.cells #[.int .u64 33, .slice (some ⟨w.heap.size, 0, none⟩) 1 1] 54)) (some ⟨w.heap.size + 1, 0, none⟩) [⟨33, some ⟨w.heap.size, 0, none⟩, 1, 1, [0]⟩]) := hfl
  have HC0 : Hid (Chg (fun _ => False) w ((w.alloc (.cells #[.int .u8 0] 5)).alloc (.cells #[.int .u64 33, .slice (some ⟨w.heap.size, 0, none⟩) 1 1] 54))) := chg_then cA cB
  have HP : Hid _ := S.put 5 300 0 0 (some ⟨w.heap.size + 1, 0, none⟩) 1 1 _ _ (S.keep hT HC0.out) (I64.lit3 (by decide)) (I64.lit3 (by decide)) (I64.lit3 (by decide)) (I64.lit3 (by decide)) hfl rfl (Nat.le_refl _) (by decide) (fun k x hk => by
    match k, hk with
    | 0, hk => simp at hk; subst hk; show (1 : Nat) ≤ _; decide
    | k + 1, hk => simp at hk)
  have hfx : Hd21.putH ⟨5, 300, List.map FlV.f [⟨33, some ⟨w.heap.size, 0, none⟩, 1, 1, [0]⟩], 0⟩ 0 = ([2, 192, 5, 172, 2, 33, 1, 0, 166, 113, 157, 132], 0) := fix_put21
  rw [hfx] at HP
  unfold hdv at HP
  simp only at HP
  clear hT cA cB hra hbB hfl hfx
  go_enter Tryd.func9, Tryd.ntmps9
  go_wp2_with fail
  refine Calls.mono HP.out ?_
  rintro z w1 ⟨ov, rfl, ho, c1⟩
  obtain ⟨oa, oc, rfl⟩ := form1 ho
  have HC1 : Hid (Chg (fun _ => False) w w1) := chg_then HC0.out c1
  obtain ⟨hrow, _, hcap⟩ := byO_row ho
  have hr8 := row8_take hrow (i := 8) (by decide)
  have hcv : (convert 25 9 (.slice oa 8 oc)).run Tryd.prog w1 = .ok (.string (strOfNums [2, 192, 5, 172, 2, 33, 1, 0])) w1 := Bk.conv8_here hr8
  have hst : strOfNums [2, 192, 5, 172, 2, 33, 1, 0] = { data := #[2, 192, 5, 172, 2, 33, 1, 0] } := by kernel_rfl
  rw [hst] at hcv
  simp only [List.length_cons, List.length_nil, Nat.reduceAdd] at hcap ⊢
  have hcut : ∀ ww, (Instr.sliceAt 25 (.slice oa 12 oc) none (some (.int .i64 8)) none).run Tryd.prog ww = .ok (.slice oa 8 oc) ww := fun ww => run_cutZ_hi undBy elemBy sizeBy _ 12 oc 8 ww (by omega)
  have HG : Hid _ := S.get oa 12 oc [2, 192, 5, 172, 2, 33, 1, 0, 166, 113, 157, 132] w1 (S.keep HT.out HC1.out) hrow (by intro x hx; simp at hx; omega) hcap (by decide)
  rw [fix_get21] at HG
  unfold hdv at HG
  simp only at HG
  have HF1 : Hid (FlL w1 (some ⟨w.heap.size + 1, 0, none⟩) [⟨33, some ⟨w.heap.size, 0, none⟩, 1, 1, [0]⟩]) := HF.out.new c1
  clear ho c1 HP HC0 hrow hcap hr8 hst HF
  go_wp2_with fail
  refine Calls.mono HG.out ?_
  rintro z w2 ⟨fa, fn, fc, l, rfl, hof, _, hln, _, hmf, c2⟩
  have hfn : fn = 1 := by
    have := congrArg List.length hmf
    rw [List.length_map] at this
    rw [← hln]
    exact this
  subst hfn
  have cC := chg_one w2 (.cells #[.int .i64 5, .int .i64 300, .slice fa 1 fc, .int .i64 12] 24)
  have bC := heap_alloc_last w2 (.cells #[.int .i64 5, .int .i64 300, .slice fa 1 fc, .int .i64 12] 24)
  obtain ⟨x0, x1, x2, x3⟩ := cells4h bC
  have HSM : Hid _ := same21_any (w2.alloc (.cells #[.int .i64 5, .int .i64 300, .slice fa 1 fc, .int .i64 12] 24)) 5 300 12 fa (some ⟨w.heap.size + 1, 0, none⟩) 1 fc 1 l _ (hof.L.new cC) (HF1.out.new (chg_then c2 cC)) rfl hmf (by decide)
  unfold hdv at HSM
  have HC3 : Hid (Chg (fun _ => False) w (w2.alloc (.cells #[.int .i64 5, .int .i64 300, .slice fa 1 fc, .int .i64 12] 24))) := chg_then HC1.out (chg_then c2 cC)
  clear c2 cC bC hof hln hmf hcv hcut HG HF1 HC1
  go_wp2_with fail
  refine Calls.mono HSM.out ?_
  rintro z w4 ⟨rfl, c4⟩
  have HC4 : Hid (Chg (fun _ => False) w w4) := chg_then HC3.out c4
  go_wp2
  go_ret
  exact ⟨rfl, HC4.out⟩
end Go.Proofs.YtkncbanodpfccaaDoor
