/- The program's Get of filters; of no statement by itself. -/
import Derived.Test.YtkncbanodpfccaaDoorCld
import Derived.Test.YtkncbanodpfccaaDoorCrt
import Derived.Laws.AppendOwnNone
namespace Go.Proofs.YtkncbanodpfccaaDoor
open Go.RowKit
open St12
set_option linter.unusedVariables false
set_option linter.unusedSimpArgs false
theorem eqn8_some (x : Addr) (n c : Nat) (w : World) : (binOp .eql 25 (.slice (some x) n c) (.slice none 0 0)).run Tryd.prog w = .ok (.bool false) w := by kernel_rfl
theorem eqn8_none (w : World) : (binOp .eql 25 (.slice none 0 0) (.slice none 0 0)).run Tryd.prog w = .ok (.bool true) w := by kernel_rfl
set_option maxHeartbeats 1000000 in
set_option maxRecDepth 100000 in
theorem bcl20_some (x : Addr) (n c : Nat) (bs : List Nat) (w : World) (h : Row8 w (some x) n c (nums bs)) (hn : n ≤ 140737488355328) :
    Calls Tryd.prog 70 #[.slice (some x) n c] w fun e w' => ∃ v', e = .returned v' ∧ ByO w' w.heap.size v' bs ∧ Chg (fun _ => False) w w' := by
  obtain ⟨i0, hi, hz0, hz1, hz2⟩ := info_parts infoU8
  have hone := oneB bs
  have hl : bs.length = n := by have := h.1; rw [nums_len] at this; exact this
  have c1 := chg_one w (.cells #[] 5)
  have hF1 : From _ (some x) n c 1 ((nums bs).map (Value.int .u8)) := (Bk.row8_chg h c1).src
  have hE := own_empty w 5
  have hs : w.heap.size ≤ (w.alloc (.cells #[] 5)).heap.size := c1.size
  have heq := eqn8_some x n c w
  clear h
  go_enter Tryd.func70, Tryd.ntmps70
  go_wp2_with (at_builtin; refine wpList_append_moved rfl _ _ 25 rfl w.heap.size 5 i0 (.int .u8 0) 1 1 Tryd.underlying25 hi hz0 hz1 hz2 rfl (by decide) _ 0 [] rfl (some x) n c rfl ((nums bs).map (Value.int .u8)) hE hF1 hone (by unfold maxLen; omega) (by omega) hs ?_)
  intro v2 w2 ho hg hm
  have HC : Hid (Chg (fun _ => False) w w2) := c1.grown hg (fun k e => .inr (hE.lt k e).1)
  have HO : Hid (ByO w2 w.heap.size v2 bs) := by
    show World.ownsRow _ _ _ _ _ _ _
    rw [hl]
    exact (by simpa using ho : w2.ownsRow w.heap.size 5 1 v2 n ((nums bs).map (Value.int .u8)))
  clear ho hg hm hE hF1 c1
  go_wp2
  go_ret
  exact ⟨_, rfl, HO.out, HC.out⟩
theorem bcl20_any (ad : Option Addr) (n c : Nat) (bs : List Nat) (w : World) (h : Row8 w ad n c (nums bs)) (hn : n ≤ 140737488355328) :
    Calls Tryd.prog 70 #[.slice ad n c] w fun e w' => ∃ v', e = .returned v' ∧ ByO w' w.heap.size v' bs ∧ Chg (fun _ => False) w w' := by
  rcases h.2 with ⟨rfl, rfl, rfl⟩ | ⟨x, rfl, _⟩
  · have hd : bs = [] := List.eq_nil_of_length_eq_zero (by have := h.1; rw [nums_len] at this; exact this)
    subst hd
    have heq := eqn8_none w
    clear h
    go_enter Tryd.func70, Tryd.ntmps70
    go_wp2
    go_ret
    exact ⟨_, rfl, byO_nil _ _, Chg.refl _ _⟩
  · exact bcl20_some x n c bs w h hn
theorem lvget_any (ad : Option Addr) (n c : Nat) (bs : List Nat) (w : World) (h : Row8 w ad n c (nums bs)) (hd : Rc.Dig bs) (hc : n ≤ c) (hn : n ≤ 140737488355328) : Calls Tryd.prog 68 #[.slice ad n c] w fun e w' => e = .returned (.tuple #[.int .u64 ((getN bs).1 : Int), .int .i64 ((getN bs).2.1 : Int), .int .i64 (getN bs).2.2]) ∧ w' = w := by
  refine (Vint.get_any ad n c (nums bs) w h (dig_b8 hd) hc hn).mono fun e w' ⟨v, m, e', he, hg, hw⟩ => ?_
  obtain ⟨r1, r2, r3⟩ := getN_of hg
  subst hw
  rw [← r1, ← r2, ← r3]
  exact ⟨he, rfl⟩
theorem cut_u (a : Option Addr) (n c v : Nat) (h : v ≤ c) (w : World) : (Instr.sliceAt 25 (.slice a n c) none (some (.int .u64 (v : Int))) none).run Tryd.prog w = .ok (.slice a v c) w := by
  rw [run_sliceAt_slice w 25 _ _ _ _ undBy, run_slice_h w 25 a n c undBy .u64 (v : Int) (by omega) (by omega), elemBy, sizeBy]
  simp only [Result.andThen, sliced, Int.toNat_natCast, Nat.zero_mul, Nat.sub_zero]
  congr 2
  split
  · rfl
  · cases a <;> simp [Vint.addr_add0]
set_option maxHeartbeats 16000000 in
set_option maxRecDepth 100000 in
theorem get20_any (ad : Option Addr) (n c : Nat) (bs : List Nat) (w0 : World) (h : Row8 w0 ad n c (nums bs)) (hd : Rc.Dig bs) (hc : n ≤ c) (hn : n ≤ 140737488355328) : Calls Tryd.prog 51 #[.slice ad n c] w0 fun e w' => ∃ pv, e = .returned (.tuple #[.agg #[.int .u64 ((Cn20.getF bs).1.id : Int), pv], .int .i64 ((Cn20.getF bs).2.1 : Int), .int .i64 (Cn20.getF bs).2.2]) ∧ ByO w' w0.heap.size pv (Cn20.getF bs).1.ps ∧ Chg (fun _ => False) w0 w' := by
  have HB : Hid (Row8 w0 ad n c (nums bs)) := h
  have HD : Hid (Rc.Dig bs) := hd
  have hbl : bs.length = n := by have h9 := h.1; rw [nums_len] at h9; exact h9
  have HBL : Hid (bs.length = n) := hbl
  have hni : (n : Int) ≤ 140737488355328 := by omega
  have HG : Hid (∀ ww, Chg (fun _ => False) w0 ww → Calls Tryd.prog 68 #[.slice ad n c] ww fun e w' => e = .returned (.tuple #[.int .u64 ((getN bs).1 : Int), .int .i64 ((getN bs).2.1 : Int), .int .i64 (getN bs).2.2]) ∧ w' = ww) := fun ww hcw => lvget_any ad n c bs ww (Bk.row8_chg HB.out hcw) HD.out hc (by omega)
  have hp1 := getN_pos bs
  rw [hbl] at hp1
  have HF : Hid _ := Cn20.getF.eq_1 bs
  obtain ⟨v1, n1, e1, hg1⟩ : ∃ a b c, getN bs = (a, b, c) := ⟨_, _, _, rfl⟩
  rw [hg1] at HG HF hp1
  simp only at HG HF hp1
  obtain ⟨y1, hy1⟩ : ∃ y : Int, (v1 : Int) = y := ⟨_, rfl⟩
  rw [hy1] at HG
  have HY1 : Hid ((v1 : Int) = y1) := hy1
  have hyb : 0 ≤ y1 := by omega
  have cA := chg_one w0 (.cells #[.int .u64 0, .slice none 0 0] 54)
  have bA := heap_alloc_last w0 (.cells #[.int .u64 0, .slice none 0 0] 54)
  have z0 : (w0.alloc (.cells #[.int .u64 0, .slice none 0 0] 54)).cell? ⟨w0.heap.size, 0, none⟩ = some (.int .u64 0) := cell0 bA
  have z1 : (w0.alloc (.cells #[.int .u64 0, .slice none 0 0] 54)).cell? ⟨w0.heap.size, 1, none⟩ = some (.slice none 0 0) := cell1 bA
  have HCA : Hid (Chg (fun _ => False) w0 (w0.alloc (.cells #[.int .u64 0, .slice none 0 0] 54))) := cA
  have HBA : Hid ((w0.alloc (.cells #[.int .u64 0, .slice none 0 0] 54)).heap[w0.heap.size]? = some (.cells #[.int .u64 0, .slice none 0 0] 54 (0, 0))) := bA
  have hn1 : (n1 : Int) ≤ (n : Int) := by omega
  have hn19 : (n1 : Int) ≤ 9 := by omega
  have HG1 : Hid _ := HG.out (w0.alloc (.cells #[.int .u64 0, .slice none 0 0] 54)) cA
  clear HG hy1 cA bA h hd hbl
  by_cases h0 : e1 = 0
  · subst h0
    have HF1 := HF.out
    rw [if_neg (by simp)] at HF1
    have hp2 := getN_pos (bs.drop n1)
    rw [List.length_drop, HBL.out] at hp2
    have hrc := row8_cutZ (Bk.row8_chg HB.out HCA.out) hc (k := n1) (by omega)
    have HG2 : Hid _ := lvget_any _ (n - n1) (c - n1) (bs.drop n1) (w0.alloc (.cells #[.int .u64 0, .slice none 0 0] 54)) hrc (dig_drop HD.out n1) (by omega) (by omega)
    obtain ⟨v2, n2, e2, hg2⟩ : ∃ a b c, getN (bs.drop n1) = (a, b, c) := ⟨_, _, _, rfl⟩
    rw [hg2] at HG2 HF1 hp2
    simp only at HG2 HF1 hp2
    obtain ⟨y2, hy2⟩ : ∃ y : Int, (v2 : Int) = y := ⟨_, rfl⟩
    rw [hy2] at HG2
    have HY2 : Hid ((v2 : Int) = y2) := hy2
    have hyb2 : 0 ≤ y2 := by omega
    have hn2 : (n2 : Int) ≤ (n : Int) - (n1 : Int) := by omega
    have hn29 : (n2 : Int) ≤ 9 := by omega
    have hcut1 : ∀ ww, (Instr.sliceAt 25 (.slice ad n c) (some (.int .i64 (n1 : Int))) none none).run Tryd.prog ww = .ok (.slice (cutZ ad c n1 1) (n - n1) (c - n1)) ww := fun ww => run_cutZ_lo undBy elemBy sizeBy ad n c n1 ww (by omega)
    by_cases h2 : e2 = 0
    · subst h2
      rw [if_neg (by simp)] at HF1
      obtain ⟨M, hM⟩ : ∃ M : Nat, n1 + n2 = M := ⟨_, rfl⟩
      obtain ⟨R, hR⟩ : ∃ R : Nat, n - M = R := ⟨_, rfl⟩
      have HW1 : Hid (IntKind.i64.wrap ((n1 : Int) + (n2 : Int)) = (M : Int)) := by show _ = _; simp [IntKind.wrap, IntKind.signed, IntKind.bits]; omega
      have hMI : (n1 : Int) + (n2 : Int) = (M : Int) := by omega
      have hcut2 : ∀ ww, (Instr.sliceAt 25 (.slice ad n c) (some (.int .i64 (M : Int))) none none).run Tryd.prog ww = .ok (.slice (cutZ ad c M 1) R (c - M)) ww := fun ww => by rw [← hR]; exact run_cutZ_lo undBy elemBy sizeBy ad n c M ww (by omega)
      have hw40 : IntKind.u64.wrap (R : Int) = (R : Int) := by simp [IntKind.wrap, IntKind.signed, IntKind.bits]; omega
      rw [HBL.out] at HF1
      have hMR : M ≤ n := by omega
      have hRn : (R : Int) ≤ (n : Int) := by omega
      by_cases h3 : R < v2
      · rw [if_pos (by omega)] at HF1
        have HFF : Hid (Cn20.getF bs = (Cn20.zeroF, 0, 1)) := HF1
        have d3 : decide ((R : Int) < y2) = true := decide_eq_true (by omega)
        clear HF HF1 hrc hg1 hg2 hy2 hp1 hp2 h3 hM hR
        go_enter Tryd.func51, Tryd.ntmps51
        go_wp2_with fail
        refine Calls.mono HG1.out ?_
        rintro z w1 ⟨rfl, rfl⟩
        go_wp2_with fail
        refine Calls.mono HG2.out ?_
        rintro z w1 ⟨rfl, rfl⟩
        go_upto_region 7 with fail
        have hw1 := HW1.out
        go_wp2
        refine bodyPost_ret (v := .tuple #[.agg #[.int .u64 0, .slice none 0 0], .int .i64 0, .int .i64 1]) (by simp [results, Tryd.results51, go_sem]) rfl ?_
        exact ⟨_, by rw [HFF.out]; rfl, by rw [HFF.out]; exact byO_nil _ _, HCA.out⟩
      · rw [if_neg (by omega)] at HF1
        rw [hM] at HF1
        have HFF : Hid (Cn20.getF bs = (⟨v1, (bs.drop M).take v2⟩, M + v2, 0)) := HF1
        have d3 : decide ((R : Int) < y2) = false := decide_eq_false (by omega)
        have hcut3 : ∀ ww, (Instr.sliceAt 25 (.slice (cutZ ad c M 1) R (c - M)) none (some (.int .u64 y2)) none).run Tryd.prog ww = .ok (.slice (cutZ ad c M 1) v2 (c - M)) ww := fun ww => by rw [← hy2]; exact cut_u _ _ _ _ (by omega) ww
        have HW3 : Hid (IntKind.i64.wrap ((M : Int) + (v2 : Int)) = ((M + v2 : Nat) : Int)) := by show _ = _; simp [IntKind.wrap, IntKind.signed, IntKind.bits]; omega
        have HR : Hid (Row8 (w0.alloc (.cells #[.int .u64 0, .slice none 0 0] 54)) (cutZ ad c M 1) v2 (c - M) (nums ((bs.drop M).take v2))) := row8_cutZ2 (Bk.row8_chg HB.out HCA.out) hc (by omega)
        have HX : Hid _ := bcl20_any _ v2 (c - M) ((bs.drop M).take v2) _ HR.out (by omega)
        have hv2n : (v2 : Int) ≤ (n : Int) := by omega
        have HV2 : Hid (v2 ≤ n - M) := by show _ ≤ _; omega
        clear HF HF1 hrc hg1 hg2 hy2 hp1 hp2 h3 hM hR HR
        go_enter Tryd.func51, Tryd.ntmps51
        go_wp2_with fail
        refine Calls.mono HG1.out ?_
        rintro z w1 ⟨rfl, rfl⟩
        go_wp2_with fail
        refine Calls.mono HG2.out ?_
        rintro z w1 ⟨rfl, rfl⟩
        go_upto_region 7 with fail
        have hw1 := HW1.out
        go_upto_region 11 with fail
        go_wp2_with fail
        refine Calls.mono HX.out ?_
        rintro z w2 ⟨pv, rfl, ho2, c2⟩
        have HB2 : Hid (w2.heap[w0.heap.size]? = some (.cells #[.int .u64 0, .slice none 0 0] 54 (0, 0))) := blk_keep HBA.out c2 (fun f => f)
        have HO2 : Hid (ByO w2 (w0.heap.size + 1) pv ((bs.drop M).take v2)) := by rw [World.size_alloc] at ho2; exact ho2
        have HC2 : Hid (Chg (fun _ => False) w0 w2) := chg_then HCA.out c2
        have t0 := cell0 HB2.out
        have t1 := cell1 HB2.out
        have f0 := free0 HB2.out
        have f1 := free1 HB2.out
        have hX := blk_set0 (u := .int .u64 y1) HB2.out
        have hY := blk_set1 (u := pv) hX
        have t2 := cell1 hX
        have f2 := free1 hX
        have q0 := cell0 hY
        have q1 := cell1 hY
        have hS1 : Chg (fun g => g = w0.heap.size) w2 (w2.setCell ⟨w0.heap.size, 0, none⟩ (.int .u64 y1)) := Chg.setCell (S := fun g => g = w0.heap.size) (Chg.refl _ w2) (p := ⟨w0.heap.size, 0, none⟩) (.inl rfl) _
        have hS2 := hS1.setCell (p := ⟨w0.heap.size, 1, none⟩) (.inl rfl) pv
        have HOF : Hid (ByO ((w2.setCell ⟨w0.heap.size, 0, none⟩ (.int .u64 y1)).setCell ⟨w0.heap.size, 1, none⟩ pv) (w0.heap.size + 1) pv ((bs.drop M).take v2)) := ownsRow_keep HO2.out hS2 (fun g e f => by have := (HO2.out.lt g e).1; omega)
        have HCF : Hid (Chg (fun _ => False) w0 ((w2.setCell ⟨w0.heap.size, 0, none⟩ (.int .u64 y1)).setCell ⟨w0.heap.size, 1, none⟩ pv)) := HC2.out.trans hS2 (fun g e => .inr (by omega))
        have hw3 := HW3.out
        clear hX hY hS1 hS2 ho2 c2 HX
        have hlv : ((bs.drop M).take v2).length = v2 := by rw [List.length_take, List.length_drop, HBL.out]; have := HV2.out; omega
        obtain ⟨pa, pc, hpv⟩ := byO_form HO2.out
        rw [hlv] at hpv
        subst hpv
        clear hlv
        go_wp2
        refine bodyPost_ret (v := .tuple #[.agg #[.int .u64 y1, .slice pa v2 pc], .int .i64 ((M : Int) + (v2 : Int)), .int .i64 0]) (by simp [results, Tryd.results51, go_sem, q0, q1]) rfl ?_
        refine ⟨.slice pa v2 pc, ?_, ?_, HCF.out⟩
        · rw [HFF.out, ← HY1.out]
          simp
        · rw [HFF.out]
          exact owns_base HOF.out (by omega)
    · have hE2 : (e2 = 1 ∨ e2 = 2) := by rcases hp2.2.2 with ⟨h, _⟩ | ⟨h, _⟩; exact absurd h h2; exact h
      rw [if_pos (by exact h2)] at HF1
      have HFF : Hid (Cn20.getF bs = (Cn20.zeroF, 0, e2)) := HF1
      have x2 : (e2 != 0) = true := by simp [h2]
      clear HF HF1 hrc hg1 hg2 hy2 hp1 hp2 h2 hE2
      go_enter Tryd.func51, Tryd.ntmps51
      go_wp2_with fail
      refine Calls.mono HG1.out ?_
      rintro z w1 ⟨rfl, rfl⟩
      go_wp2_with fail
      refine Calls.mono HG2.out ?_
      rintro z w1 ⟨rfl, rfl⟩
      go_wp2
      refine bodyPost_ret (v := .tuple #[.agg #[.int .u64 0, .slice none 0 0], .int .i64 0, .int .i64 e2]) (by simp [results, Tryd.results51, go_sem]) rfl ?_
      exact ⟨_, by rw [HFF.out]; rfl, by rw [HFF.out]; exact byO_nil _ _, HCA.out⟩
  · have HF1 := HF.out
    rw [if_pos (by exact h0)] at HF1
    have HFF : Hid (Cn20.getF bs = (Cn20.zeroF, 0, e1)) := HF1
    have x1 : (e1 != 0) = true := by simp [h0]
    clear HF HF1 hg1 hp1 h0
    go_enter Tryd.func51, Tryd.ntmps51
    go_wp2_with fail
    refine Calls.mono HG1.out ?_
    rintro z w1 ⟨rfl, rfl⟩
    go_wp2
    refine bodyPost_ret (v := .tuple #[.agg #[.int .u64 0, .slice none 0 0], .int .i64 0, .int .i64 e1]) (by simp [results, Tryd.results51, go_sem]) rfl ?_
    exact ⟨_, by rw [HFF.out]; rfl, by rw [HFF.out]; exact byO_nil _ _, HCA.out⟩
end Go.Proofs.YtkncbanodpfccaaDoor
