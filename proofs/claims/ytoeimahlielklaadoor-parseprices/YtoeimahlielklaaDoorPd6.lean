/- The walk of ParsePrices; of no statement by itself. -/
import Derived.Test.YtoeimahlielklaaDoorPc6
import Derived.Test.YtoeimahlielklaaDoorSy
namespace Go.Proofs.YtoeimahlielklaaDoor
open Go.RowKit
open St12
set_option linter.unusedVariables false
set_option linter.unusedSimpArgs false
theorem elemSy : Tryd.prog.elem 22 = 24 := by kernel_rfl
theorem sizeSy : (sizeOf 24).run Tryd.prog = fun w => .ok 4 w := by kernel_rfl
theorem undSy : Tryd.prog.underlying 22 = some (.slice (Tryd.prog.elem 22)) := by kernel_rfl
set_option maxHeartbeats 8000000 in
set_option maxRecDepth 100000 in
theorem pprices_any {Tab : World → Prop} (S : PriceSpec Tab) (ad : Option Addr) (n c : Nat) (l : List Sym) (hl : l.length = n) (hn : n ≤ 4398046511000) (hz : ad = none → n = 0 ∧ c = 0) (w0 : World) (hT : Tab w0) (hS : SymL w0 ad l) : Calls Tryd.prog 3 #[.slice ad n c] w0 fun e w' => e = .returned (.bool true) ∧ Chg (fun _ => False) w0 w' := by
  obtain ⟨iy, hiy, hy0, hy1, hy2⟩ := info_parts infoSym
  have HS : Hid (SymL w0 ad l) := hS
  have HT : Hid (Tab w0) := hT
  have HL : Hid (l.length = n) := hl
  have HI : Hid (∀ y ∈ l, y.I) := fun y hy => by
    obtain ⟨k, hk, e⟩ := List.getElem_of_mem hy
    exact (hS k y (by rw [List.getElem?_eq_getElem hk, e])).1
  have hni : (n : Int) ≤ 4398046511000 := by omega
  have c0 := chg_one w0 (.cells #[] 24)
  have hsrc := from_symL (hS.new c0) hl (c := c) (fun _ e => (hz e).2)
  have hone := symcs_cell l
  have hown0 : (w0.alloc (.cells #[] 24)).ownsRow w0.heap.size 24 4 (.slice (some ⟨w0.heap.size, 0, none⟩) 0 0) 0 [] := World.ownsRow_lit (base := w0.heap.size) (e := 24) (size := 4) w0 #[] 0 (Nat.le_refl _) (by unfold maxLen; omega) (by simp)
  have hB0 : w0.heap.size ≤ (w0.alloc (.cells #[] 24)).heap.size := c0.size
  have HC0 : Hid (Chg (fun _ => False) w0 (w0.alloc (.cells #[] 24))) := c0
  clear hT hl hS c0 hz
  go_enter Tryd.func3, Tryd.ntmps3
  go_wp2_with (at_builtin; refine wpList_append_moved rfl _ _ 22 rfl w0.heap.size 24 iy (.agg #[.int .i64 0, .int .u8 0, .int .i64 0, .int .i64 0]) 4 32 Tryd.underlying22 hiy hy0 hy1 hy2 rfl (by decide) _ 0 [] rfl ad n c rfl (symcs l) hown0 hsrc hone (by unfold maxLen; omega) (by omega) hB0 ?_)
  intro v1 w1 ho1 hg1 hm1
  have c1 : Chg (fun _ => False) w0 w1 := HC0.out.grown hg1 (fun k e => .inr (by simp [Value.ownBlock] at e; omega))
  obtain ⟨a1, d1, hv1⟩ : ∃ a d, v1 = .slice a n d := by
    rcases ho1.2 with ⟨e0, e1⟩ | ⟨g, cap, cur, e0, _⟩
    · refine ⟨none, 0, ?_⟩
      rw [e0]
      have : n = 0 := by omega
      rw [this]
    · exact ⟨_, _, by simpa using e0⟩
  subst hv1
  have ho1' : w1.ownsRow w0.heap.size 24 4 (.slice a1 n d1) n (symcs l) := by simpa using ho1
  have HO1 : Hid (w1.ownsRow w0.heap.size 24 4 (.slice a1 n d1) n (symcs l)) := ho1'
  clear ho1'
  have HC1 : Hid (Chg (fun _ => False) w0 w1) := c1
  clear ho1 hg1 hm1 c1 hown0 hsrc hone hB0 HC0
  have cA := chg_one w1 (.cells #[.int .i64 (-9), .int .u8 0, .int .i64 0, .int .i64 0] 24)
  have hown2 := owns_keepZ HO1.out cA
  have hsrc2 := from_symv w1 (-9) 0 0 0 24
  have hone2 := symcs_cell [⟨-9, 0, 0, 0⟩]
  have hB2 := Nat.le_trans HC1.out.size cA.size
  have HCA : Hid (Chg (fun _ => False) w0 (w1.alloc (.cells #[.int .i64 (-9), .int .u8 0, .int .i64 0, .int .i64 0] 24))) := chg_then HC1.out cA
  clear cA
  go_upto_region 2 with fail
  go_wp2_with (at_builtin; refine wpList_append_moved rfl _ _ 22 rfl w0.heap.size 24 iy (.agg #[.int .i64 0, .int .u8 0, .int .i64 0, .int .i64 0]) 4 32 Tryd.underlying22 hiy hy0 hy1 hy2 rfl (by decide) _ n (symcs l) rfl (some ⟨w1.heap.size, 0, none⟩) 1 1 rfl (symcs [⟨-9, 0, 0, 0⟩]) hown2 hsrc2 hone2 (by unfold maxLen; omega) (by omega) hB2 ?_)
  intro v2 w2 ho2 hg2 hm2
  have c2 : Chg (fun _ => False) w0 w2 := HCA.out.grown hg2 (fun k e => .inr (HO1.out.lt k e).1)
  obtain ⟨a2, d2, hv2⟩ : ∃ a d, v2 = .slice a (n + 1) d := by
    rcases ho2.2 with ⟨e0, e1⟩ | ⟨g, cap, cur, e0, _⟩
    · omega
    · exact ⟨_, _, e0⟩
  subst hv2
  rw [← symcs_append] at ho2
  have hcap : n + 1 ≤ d2 := by
    rcases ho2.2 with ⟨e0, e1⟩ | ⟨g, cap, cur, e0, _, _, h9, _⟩
    · omega
    · simp only [Value.slice.injEq, true_and] at e0
      omega
  have HO2 : Hid (w2.ownsRow w0.heap.size 24 4 (.slice a2 (n + 1) d2) (n + 1) (symcs (l ++ [⟨-9, 0, 0, 0⟩]))) := ho2
  have HC2 : Hid (Chg (fun _ => False) w0 w2) := c2
  clear ho2 hg2 hm2 c2 hown2 hsrc2 hone2 hB2 HCA HO1 HC1
  have HI2 : Hid (∀ y ∈ l ++ [(⟨-9, 0, 0, 0⟩ : Sym)], y.I) := fun y hy => by
    rcases List.mem_append.1 hy with h | h
    · exact HI.out y h
    · rw [List.mem_singleton.1 h]
      exact ⟨⟨by decide, by decide⟩, ⟨by decide, by decide⟩, ⟨by decide, by decide⟩, ⟨by decide, by decide⟩⟩
  have hS2 : SymL w2 a2 l := symL_own (m := 0) HO2.out HI2.out l (fun k y hk => by rw [List.getElem?_append_left (List.getElem?_eq_some_iff.1 hk).1]; exact hk)
  have hlast : ∃ g, a2 = some ⟨g, 0, none⟩ ∧ w2.cell? ⟨g, n * 4, none⟩ = some (.int .i64 (-9)) := by
    have hat : (l ++ [(⟨-9, 0, 0, 0⟩ : Sym)])[n]? = some ⟨-9, 0, 0, 0⟩ := by rw [List.getElem?_append_right (by rw [HL.out]; omega), HL.out]; simp
    obtain ⟨_, b, off, e, x0, _⟩ := symL_own (m := 0) HO2.out HI2.out _ (fun k y hk => hk) n _ hat
    rcases HO2.out.2 with ⟨e0, _⟩ | ⟨g, cap, cur, e0, _⟩
    · cases e0
    · simp only [Value.slice.injEq, true_and] at e0
      obtain ⟨rfl, _⟩ := e0
      injection e with e
      simp only [Addr.mk.injEq, and_true] at e
      obtain ⟨rfl, rfl⟩ := e
      exact ⟨g, rfl, by rw [Nat.zero_add] at x0; exact x0⟩
  obtain ⟨g2, rfl, hlc⟩ := hlast
  have hcut : ∀ ww, (Instr.sliceAt 22 (.slice (some ⟨g2, 0, none⟩) (n + 1) d2) none (some (.int .i64 (n : Int))) none).run Tryd.prog ww = .ok (.slice (some ⟨g2, 0, none⟩) n d2) ww := fun ww => run_cutZ_hi undSy elemSy sizeSy _ (n + 1) d2 n ww (by omega)
  have HP : Hid _ := S.prices (some ⟨g2, 0, none⟩) n d2 l w2 (S.keep HT.out HC2.out) HL.out (by omega) (by omega) hS2
  have HS2 : Hid (SymL w2 (some ⟨g2, 0, none⟩) l) := hS2
  have HLC : Hid (w2.cell? ⟨g2, n * 4, none⟩ = some (.int .i64 (-9))) := hlc
  obtain ⟨pv, pe, hpv⟩ : ∃ a b, pricesA l = (a, b) := ⟨_, _, rfl⟩
  have HPV : Hid (pricesA l = (pv, pe)) := hpv
  rw [hpv] at HP
  simp only at HP
  clear hS2 hlc hpv HO2 HI2
  go_upto_region 3 with fail
  go_wp2_with fail
  refine Calls.mono HP.out ?_
  rintro z w3 ⟨rfl, c3⟩
  have HC3 : Hid (Chg (fun _ => False) w0 w3) := chg_then HC2.out c3
  have HS3 : Hid (SymL w3 (some ⟨g2, 0, none⟩) l) := HS2.out.new c3
  have HL3 : Hid (w3.cell? ⟨g2, n * 4, none⟩ = some (.int .i64 (-9))) := cell_chg HLC.out c3
  have HR : Hid _ := rprices_any ad n c l HL.out (by omega) w3 (HS.out.new HC3.out)
  rw [HPV.out] at HR
  simp only at HR
  clear c3 HP HC2 HS2 HLC HPV
  go_wp2_with fail
  refine Calls.mono HR.out ?_
  rintro z w4 ⟨rfl, c4⟩
  have HC4 : Hid (Chg (fun _ => False) w0 w4) := chg_then HC3.out c4
  have HSA : Hid _ := same16_q (some ⟨g2, 0, none⟩) ad d2 c n l w4 (HS3.out.new c4) (HS.out.new HC4.out) HL.out (by omega)
  have HL4 : Hid (w4.cell? ⟨g2, n * 4, none⟩ = some (.int .i64 (-9))) := cell_chg HL3.out c4
  have e1 : (pv != pv) = false := by simp
  have e2 : (pe != pe) = false := by simp
  clear c4 HR HC3 HS3 HL3
  go_wp2_with fail
  refine Calls.mono HSA.out ?_
  rintro z w5 ⟨rfl, q, rfl⟩
  have hl5 := cell_chg HL4.out (chg_drewN w4 q)
  have HC5 : Hid (Chg (fun _ => False) w0 (w4.drewN q)) := chg_then HC4.out (chg_drewN w4 q)
  clear HSA HC4 HL4 e1 e2 hcut
  generalize w4.drewN q = w5 at *
  go_wp2_with fail
  go_loopw [62] (fun v wr => ∃ i : Nat, i ≤ n ∧ v = .int .i64 (i : Int) ∧ Hid (Chg (fun _ => False) w0 wr)) (fun v _ => n - (intOf v).toNat)
  case atStart => exact ⟨0, by omega, rfl, HC5.out⟩
  case round =>
    obtain ⟨i, hi, rfl, HW⟩ := hrel
    have hii : (i : Int) ≤ 4398046511000 := by omega
    by_cases hin : i < n
    · have hd1 : decide (i < n) = true := decide_eq_true hin
      obtain ⟨y, hy⟩ : ∃ y, l[i]? = some y := ⟨_, List.getElem?_eq_getElem (by rw [HL.out]; exact hin)⟩
      obtain ⟨hyI, b, off, rfl, x0, x1, x2, x3⟩ := sym_cell (HS.out.new HW.out) i y hy
      obtain ⟨yk, yb, yl, yd⟩ := y
      simp only at x0 x1 x2 x3
      have cB := chg_one wr (.cells #[.int .i64 yk, .int .u8 yb, .int .i64 yl, .int .i64 yd] 24)
      have hbB := heap_alloc_last wr (.cells #[.int .i64 yk, .int .u8 yb, .int .i64 yl, .int .i64 yd] 24)
      obtain ⟨m0, m1, m2, m3⟩ := cells4y hbB
      have HCB : Hid (Chg (fun _ => False) w0 (wr.alloc (.cells #[.int .i64 yk, .int .u8 yb, .int .i64 yl, .int .i64 yd] 24))) := chg_then HW.out cB
      have HBB : Hid ((wr.alloc (.cells #[.int .i64 yk, .int .u8 yb, .int .i64 yl, .int .i64 yd] 24)).heap[wr.heap.size]? = some (.cells #[.int .i64 yk, .int .u8 yb, .int .i64 yl, .int .i64 yd] 24 (0, 0))) := hbB
      have HP : Hid _ := S.price yk yb yl yd _ (S.keep HT.out HCB.out) hyI
      have HYI : Hid ((⟨yk, yb, yl, yd⟩ : Sym).I) := hyI
      obtain ⟨qv, qe, hqv⟩ : ∃ a b, priceA ⟨yk, yb, yl, yd⟩ = (a, b) := ⟨_, _, rfl⟩
      have HQV : Hid (priceA ⟨yk, yb, yl, yd⟩ = (qv, qe)) := hqv
      rw [hqv] at HP
      simp only at HP
      clear hy hyI hqv cB hbB
      go_wp2_with fail
      refine Calls.mono HP.out ?_
      rintro z w6 ⟨rfl, c6⟩
      have HC6 : Hid (Chg (fun _ => False) w0 w6) := chg_then HCB.out c6
      have hb6 := blk_keep HBB.out c6 (fun f => f)
      obtain ⟨n0, n1, n2, n3⟩ := cells4y hb6
      have HR : Hid _ := rprice_any yk yb yl yd HYI.out w6
      rw [HQV.out] at HR
      simp only at HR
      clear c6 HP hb6 m0 m1 m2 m3 x0 x1 x2 x3 HBB HCB HQV HYI
      go_wp2_with fail
      refine Calls.mono HR.out ?_
      rintro z w7 ⟨rfl, c7⟩
      have HC7 : Hid (Chg (fun _ => False) w0 w7) := chg_then HC6.out c7
      have e1 : (qv != qv) = false := by simp
      have e2 : (qe != qe) = false := by simp
      clear c7 HR HC6 n0 n1 n2 n3
      go_wp2_with fail
      exact ⟨⟨i + 1, by omega, by go_num, HC7.out⟩, by simp [intOf]; omega⟩
    · have hd1 : decide (i < n) = false := decide_eq_false hin
      have HW2 : Hid (Chg (fun _ => False) w0 wr) := HW.out
      clear HW
      go_wp2
      go_ret
      exact ⟨rfl, HW2.out⟩
end Go.Proofs.YtoeimahlielklaaDoor
