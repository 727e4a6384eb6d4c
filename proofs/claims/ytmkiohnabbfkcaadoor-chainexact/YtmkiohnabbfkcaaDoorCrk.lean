/- The walks through kept and sameFilters; of no statement by themselves. -/
import Derived.Test.YtmkiohnabbfkcaaDoorCrb
namespace Go.Proofs.YtmkiohnabbfkcaaDoor
open Go.RowKit
set_option linter.unusedVariables false
set_option linter.unusedSimpArgs false
theorem map_f_at {q l : List FlV} (h : q.map FlV.f = l.map FlV.f) {k : Nat} {x : FlV} (hx : l[k]? = some x) : ∃ y, q[k]? = some y ∧ y.id = x.id ∧ y.bs = x.bs := by
  have e : (q.map FlV.f)[k]? = some x.f := by rw [h, List.getElem?_map, hx]; rfl
  rw [List.getElem?_map] at e
  cases hq : q[k]? with
  | none => rw [hq] at e; cases e
  | some y =>
    rw [hq] at e
    simp only [Option.map_some, Option.some.injEq, FlV.f, Flt.mk.injEq] at e
    exact ⟨y, rfl, e.1, e.2⟩
theorem Ro.full {w0 w : World} {rp : Nat} {ra : Option Addr} {rc : Nat} {fv : Value} {q : List FlV} (h : Ro w0 w rp ra rc fv q) (hq : 0 < q.length) : ∃ g c, fv = .slice (some ⟨g, 0, none⟩) q.length c ∧ ∀ (k : Nat) (x : FlV), q[k]? = some x → w.cell? ⟨g, k, none⟩ = some (.slice x.a (x.n + 1) x.c) := by
  obtain ⟨g, c, rfl, _⟩ := owns_someF h.ful hq
  refine ⟨g, c, rfl, fun k x hk => ?_⟩
  have hkl := (List.getElem?_eq_some_iff.1 hk).1
  rw [h.ful.cellAt k (by omega), List.getElem?_map, hk]
  rfl
set_option maxHeartbeats 8000000 in
set_option maxRecDepth 100000 in
theorem kept_any (w0 w : World) (rp : Nat) (ra : Option Addr) (rc : Nat) (fv : Value) (q : List FlV) (H : Ro w0 w rp ra rc fv q) (ad : Option Addr) (n c : Nat) (l : List FlV) (hL : FlL w ad l) (hl : l.length = n) (hq : q.map FlV.f = l.map FlV.f) (hn : n ≤ 4398046510976) : Calls Tryd.prog 11 #[.pointer (some ⟨rp, 0, none⟩), .slice ad n c] w fun e w' => e = .returned (.bool true) ∧ Chg (fun _ => False) w w' := by
  have hql : q.length = n := by have := congrArg List.length hq; simpa [hl] using this
  have HL : Hid (FlL w ad l) := hL
  have HLL : Hid (l.length = n) := hl
  have HQL : Hid (q.length = n) := hql
  have HQ : Hid (q.map FlV.f = l.map FlV.f) := hq
  have HR : Hid (Ro w0 w rp ra rc fv q) := H
  have hni : (n : Int) ≤ 4398046510976 := by omega
  obtain ⟨g, hga, hgc, hgs⟩ := H.at
  subst hga
  have hblk := H.blk
  rw [hql] at hblk hgc
  have HB : Hid (w.heap[rp]? = some (.cells #[.slice (some ⟨g, 0, none⟩) (n + 1) rc, fv] 61 (0, 0))) := hblk
  have HG : Hid (∀ j u, (flcs (q ++ [endF]))[j]? = some u → w.cell? ⟨g, j, none⟩ = some u) := hgs
  clear hL hl hql hq H hblk hgs
  go_enter Tryd.func11, Tryd.ntmps11
  go_wp2_with fail
  go_loopw [10] (fun i wr => ∃ k : Nat, k ≤ n ∧ i = .int .i64 (k : Int) ∧ Hid (Chg (fun _ => False) w wr)) (fun i _ => n - (intOf i).toNat)
  case atStart => exact ⟨0, by omega, rfl, Chg.refl _ _⟩
  case round =>
    obtain ⟨k, hk, rfl, HC⟩ := hrel
    have hki : (k : Int) ≤ (n : Int) := by omega
    by_cases hlt : k < n
    · have d1 : decide ((k : Int) < (n : Int)) = true := decide_eq_true (by omega)
      have d1' : decide (k < n) = true := decide_eq_true hlt
      obtain ⟨x, b, off, hx, hok, rfl, x0, x1⟩ := HL.out.at (k := k) (by rw [HLL.out]; exact hlt)
      replace x0 := cell_chg x0 HC.out
      replace x1 := cell_chg x1 HC.out
      obtain ⟨y, hy, hid, hbs⟩ := map_f_at HQ.out hx
      obtain ⟨gf, cf, hfv, hfs⟩ := HR.out.full (by rw [HQL.out]; omega)
      rw [HQL.out] at hfv
      subst hfv
      have hyc := hfs k y hy
      obtain ⟨a0, a1⟩ := flcs_at (q ++ [endF]) k y (by rw [List.getElem?_append_left (by rw [HQL.out]; omega)]; exact hy)
      have y0 := HG.out _ _ a0
      have y1 := HG.out _ _ a1
      have hmk := HR.out.pcs k y hy
      obtain ⟨id, xa, xn, xc, bs⟩ := x
      obtain ⟨yi, ya, yn, yc, ybs⟩ := y
      simp only at hid hbs x0 x1 y0 y1 hyc
      subst hid hbs
      have hyn : yn = xn := by
        have h1 := hmk.len
        have h2 := hok.len
        simp only at h1 h2
        omega
      subst hyn
      have hown := hmk.own
      simp only at hown
      have HOK : Hid ((⟨yi, xa, yn, xc, ybs⟩ : FlV).ok w) := hok
      have HOW : Hid (ByO w w0.heap.size (.slice ya (yn + 1) yc) (ybs ++ [77])) := hown
      have HBL : Hid (ybs.length = yn) := by have := hok.len; exact this
      have hnx : (yn : Int) ≤ 140737488351232 := by have := hok.lim; simp only at this; omega
      have cA := chg_one wr (.cells #[.int .u64 (yi : Int), .slice xa yn xc] 36)
      have bA := heap_alloc_last wr (.cells #[.int .u64 (yi : Int), .slice xa yn xc] 36)
      have m0 : (wr.alloc (.cells #[.int .u64 (yi : Int), .slice xa yn xc] 36)).cell? ⟨wr.heap.size, 0, none⟩ = some (.int .u64 (yi : Int)) := cell0 bA
      have m1 : (wr.alloc (.cells #[.int .u64 (yi : Int), .slice xa yn xc] 36)).cell? ⟨wr.heap.size, 1, none⟩ = some (.slice xa yn xc) := cell1 bA
      have HCA : Hid (Chg (fun _ => False) w (wr.alloc (.cells #[.int .u64 (yi : Int), .slice xa yn xc] 36))) := chg_then HC.out cA
      have rA0 : (wr.alloc (.cells #[.int .u64 (yi : Int), .slice xa yn xc] 36)).cell? ⟨rp, 0, none⟩ = some (.slice (some ⟨g, 0, none⟩) (n + 1) rc) := cell_chg (cell0 HB.out) HCA.out
      have rA1 : (wr.alloc (.cells #[.int .u64 (yi : Int), .slice xa yn xc] 36)).cell? ⟨rp, 1, none⟩ = some (.slice (some ⟨gf, 0, none⟩) n cf) := cell_chg (cell1 HB.out) HCA.out
      have fA := cell_chg hyc HCA.out
      have yA0 := cell_chg y0 HCA.out
      have yA1 := cell_chg y1 HCA.out
      have hrow := (byO_row hown).1
      have hkc := (byO_row hown).2.2
      have hrA := Bk.row8_chg hrow HCA.out
      have hrB := row8_take hrA (i := yn) (by omega)
      rw [List.take_append_of_le_length (by rw [HBL.out]; omega), List.take_of_length_le (by rw [HBL.out]; omega)] at hrB
      have hrC := Bk.row8_chg HOK.out.row HCA.out
      simp only at hrC
      have hl77 : ∃ g2, ya = some ⟨g2, 0, none⟩ ∧ w.cell? ⟨g2, yn, none⟩ = some (.int .u8 77) := by
        obtain ⟨g2, c2, e, _⟩ := owns_someF hown (by simp)
        simp only [Value.slice.injEq] at e
        obtain ⟨rfl, _, _⟩ := e
        refine ⟨g2, rfl, ?_⟩
        rcases hrow.2 with ⟨e1, _, _⟩ | ⟨z, e, hz⟩
        · cases e1
        · injection e with e
          subst e
          have h9 := hz yn (.int .u8 77) (by
            have h8 : (ybs ++ [77])[yn]? = some 77 := by rw [List.getElem?_append_right (by rw [HBL.out]; omega), HBL.out]; simp
            simp only [nums, List.map_map, List.getElem?_map, h8]
            rfl)
          rw [addk, Nat.zero_add] at h9
          exact h9
      obtain ⟨g2, rfl, l77⟩ := hl77
      have lA := cell_chg l77 HCA.out
      clear cA bA hmk hok hown hx hy HC a0 a1 hfs hyc y0 y1 hrow hrA l77
      go_upto_region 4 with fail
      clear x0 x1
      generalize wr.alloc (.cells #[.int .u64 (yi : Int), .slice xa yn xc] 36) = WA at *
      generalize wr.heap.size = fb at *
      have hcp : ∀ k, (convert 23 9 (.slice (some ⟨g2, 0, none⟩) yn yc)).run Tryd.prog (WA.drewN k) = .ok (.string (strOfNums (nums ybs))) (WA.drewN k) := fun k => Bk.conv8 hrB k
      have hcx : ∀ k, (convert 23 9 (.slice xa yn xc)).run Tryd.prog (WA.drewN k) = .ok (.string (strOfNums (nums ybs))) (WA.drewN k) := fun k => Bk.conv8 hrC k
      generalize strOfNums (nums ybs) = ST at *
      have hss : (ST.toList != ST.toList) = false := by simp
      have hii : ((yi : Int) != (yi : Int)) = false := by simp
      have hcut : ∀ ww, (Instr.sliceAt 23 (.slice (some ⟨g2, 0, none⟩) (yn + 1) yc) none (some (.int .i64 (yn : Int))) none).run Tryd.prog ww = .ok (.slice (some ⟨g2, 0, none⟩) yn yc) ww := fun ww => run_cutZ_hi undBy elemBy sizeBy _ (yn + 1) yc yn ww (by omega)
      have x4 : (yn : Int) < (yn : Int) + 1 := by omega
      have x5 : (k : Int) < (n : Int) + 1 := by omega
      clear hrB hrC hkc
      go_upto_region 5 with fail
      go_quiet (fail)
      have HC9 : Hid (Chg (fun _ => False) w (WA.drewN nq)) := chg_then HCA.out (chg_drewN WA nq)
      clear hcp hcx hss hii hcut x4 x5 rA0 rA1 fA yA0 yA1 lA m0 m1 HCA
      go_wp2
      go_roundw
      case rel => exact ⟨k + 1, by omega, by go_num, HC9⟩
      case measure => simp [intOf]; omega
    · obtain rfl : k = n := by omega
      have d1 : decide ((k : Int) < (k : Int)) = false := decide_eq_false (by omega)
      obtain ⟨a0, a1⟩ := flcs_at (q ++ [endF]) k endF (by rw [List.getElem?_append_right (by rw [HQL.out]; omega), HQL.out]; simp)
      have y0 : wr.cell? ⟨g, k * 2, none⟩ = some (.int .u64 1152921504606846976) := cell_chg (HG.out _ _ a0) HC.out
      have y1 : wr.cell? ⟨g, k * 2 + 1, none⟩ = some (.slice none 0 0) := cell_chg (HG.out _ _ a1) HC.out
      have r0 : wr.cell? ⟨rp, 0, none⟩ = some (.slice (some ⟨g, 0, none⟩) (k + 1) rc) := cell_chg (cell0 HB.out) HC.out
      have x5 : (k : Int) < (k : Int) + 1 := by omega
      clear a0 a1
      go_wp2
      go_ret
      exact ⟨rfl, HC.out⟩
end Go.Proofs.YtmkiohnabbfkcaaDoor
