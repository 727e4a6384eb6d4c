/- The document's own Get of filters; of no statement by itself. -/
import Derived.Test.YtkncbanodpfccaaDoorCrr
namespace Go.Proofs.YtkncbanodpfccaaDoor
open Go.RowKit
open St12
set_option linter.unusedVariables false
set_option linter.unusedSimpArgs false
theorem row8_cutZ {w : World} {ad : Option Addr} {n c k : Nat} {bs : List Nat} (h : Row8 w ad n c (nums bs)) (hc : n ≤ c) (hk : k ≤ n) : Row8 w (cutZ ad c k 1) (n - k) (c - k) (nums (bs.drop k)) := by
  have hl := h.1
  rw [nums_len] at hl
  have := row8_cut h hc k (n - k) (c - k) (by omega) (by omega)
  rw [nums_cut, List.take_of_length_le (by rw [List.length_drop]; omega)] at this
  unfold cutZ
  rw [Nat.mul_one]
  exact this
theorem row8_cutZ2 {w : World} {ad : Option Addr} {n c k m : Nat} {bs : List Nat} (h : Row8 w ad n c (nums bs)) (hc : n ≤ c) (hk : k + m ≤ n) : Row8 w (cutZ ad c k 1) m (c - k) (nums ((bs.drop k).take m)) := by
  have := row8_cut h hc k m (c - k) hk (by omega)
  rw [nums_cut] at this
  unfold cutZ
  rw [Nat.mul_one]
  exact this
theorem run_cutZ_lh (ad : Option Addr) (m c k h : Nat) (w : World) (hk : k ≤ h) (hh : h ≤ c) : (Instr.sliceAt 25 (.slice ad m c) (some (.int .i64 (k : Int))) (some (.int .i64 (h : Int))) none).run Tryd.prog w = .ok (.slice (cutZ ad c k 1) (h - k) (c - k)) w := by
  rw [run_sliceAt_slice w 25 _ _ _ _ undBy, run_slice_lh w 25 ad m c undBy .i64 .i64 (k : Int) (h : Int) (by omega) (by omega) (by omega), elemBy, sizeBy]
  unfold cutZ sliced
  simp [Result.andThen]
theorem rvget_any (ad : Option Addr) (n c : Nat) (bs : List Nat) (w : World) (h : Row8 w ad n c (nums bs)) (hd : Rc.Dig bs) (hn : n ≤ 140737488355328) : Calls Tryd.prog 58 #[.slice ad n c] w fun e w' => e = .returned (.tuple #[.int .u64 ((getN bs).1 : Int), .int .i64 ((getN bs).2.1 : Int), .int .i64 (getN bs).2.2]) ∧ w' = w := by
  refine (Vint.refGet_any ad n c (nums bs) w h (dig_b8 hd) hn).mono fun e w' ⟨v, m, e', he, hg, hw⟩ => ?_
  obtain ⟨r1, r2, r3⟩ := getN_of hg
  subst hw
  rw [← r1, ← r2, ← r3]
  exact ⟨he, rfl⟩
set_option maxHeartbeats 16000000 in
set_option maxRecDepth 100000 in
theorem rget20_any (ad : Option Addr) (n c : Nat) (bs : List Nat) (w0 : World) (h : Row8 w0 ad n c (nums bs)) (hd : Rc.Dig bs) (hc : n ≤ c) (hn : n ≤ 140737488351232) : Calls Tryd.prog 35 #[.slice ad n c] w0 fun e w' => ∃ pv, e = .returned (.tuple #[.agg #[.int .u64 ((Cn20.getF bs).1.id : Int), pv], .int .i64 ((Cn20.getF bs).2.1 : Int), .int .i64 (Cn20.getF bs).2.2]) ∧ ByO w' w0.heap.size pv (Cn20.getF bs).1.ps ∧ Chg (fun _ => False) w0 w' := by
  obtain ⟨iu, hiu, hu0, hu1, hu2⟩ := info_parts info5u
  have HB : Hid (Row8 w0 ad n c (nums bs)) := h
  have HD : Hid (Rc.Dig bs) := hd
  have hbl : bs.length = n := by have h9 := h.1; rw [nums_len] at h9; exact h9
  have HBL : Hid (bs.length = n) := hbl
  have hni : (n : Int) ≤ 140737488351232 := by omega
  have HG : Hid (∀ ww, Chg (fun _ => False) w0 ww → Calls Tryd.prog 58 #[.slice ad n c] ww fun e w' => e = .returned (.tuple #[.int .u64 ((getN bs).1 : Int), .int .i64 ((getN bs).2.1 : Int), .int .i64 (getN bs).2.2]) ∧ w' = ww) := fun ww hc => rvget_any ad n c bs ww (Bk.row8_chg HB.out hc) HD.out (by omega)
  have hp1 := getN_pos bs
  rw [hbl] at hp1
  have HF : Hid _ := Cn20.getF.eq_1 bs
  obtain ⟨v1, n1, e1, hg1⟩ : ∃ a b c, getN bs = (a, b, c) := ⟨_, _, _, rfl⟩
  rw [hg1] at HG HF hp1
  simp only at HG HF hp1
  obtain ⟨y1, hy1⟩ : ∃ y : Int, (v1 : Int) = y := ⟨_, rfl⟩
  rw [hy1] at HG
  have HY1 : Hid ((v1 : Int) = y1) := hy1
  have hyb : 0 ≤ y1 := by omega
  have cA := chg_one w0 (.cells #[.int .u64 0, .slice none 0 0] 54)
  have bA := heap_alloc_last w0 (.cells #[.int .u64 0, .slice none 0 0] 54)
  have z0 : (w0.alloc (.cells #[.int .u64 0, .slice none 0 0] 54)).cell? ⟨w0.heap.size, 0, none⟩ = some (.int .u64 0) := cell0 bA
  have z1 : (w0.alloc (.cells #[.int .u64 0, .slice none 0 0] 54)).cell? ⟨w0.heap.size, 1, none⟩ = some (.slice none 0 0) := cell1 bA
  have HCA : Hid (Chg (fun _ => False) w0 (w0.alloc (.cells #[.int .u64 0, .slice none 0 0] 54))) := cA
  have HBA : Hid ((w0.alloc (.cells #[.int .u64 0, .slice none 0 0] 54)).heap[w0.heap.size]? = some (.cells #[.int .u64 0, .slice none 0 0] 54 (0, 0))) := bA
  have hn1 : (n1 : Int) ≤ (n : Int) := by omega
  have hn19 : (n1 : Int) ≤ 9 := by omega
  have HG1 : Hid _ := HG.out (w0.alloc (.cells #[.int .u64 0, .slice none 0 0] 54)) cA
  clear HG hy1 cA bA h hd hbl
  by_cases h0 : e1 = 0
  · subst h0
    have HF1 := HF.out
    rw [if_neg (by simp)] at HF1
    have hp2 := getN_pos (bs.drop n1)
    rw [List.length_drop, HBL.out] at hp2
    have hrc := row8_cutZ (Bk.row8_chg HB.out HCA.out) hc (k := n1) (by omega)
    have HG2 : Hid _ := rvget_any _ (n - n1) (c - n1) (bs.drop n1) (w0.alloc (.cells #[.int .u64 0, .slice none 0 0] 54)) hrc (dig_drop HD.out n1) (by omega)
    obtain ⟨v2, n2, e2, hg2⟩ : ∃ a b c, getN (bs.drop n1) = (a, b, c) := ⟨_, _, _, rfl⟩
    rw [hg2] at HG2 HF1 hp2
    simp only at HG2 HF1 hp2
    obtain ⟨y2, hy2⟩ : ∃ y : Int, (v2 : Int) = y := ⟨_, rfl⟩
    rw [hy2] at HG2
    have hyb2 : 0 ≤ y2 := by omega
    have hn2 : (n2 : Int) ≤ (n : Int) - (n1 : Int) := by omega
    have hn29 : (n2 : Int) ≤ 9 := by omega
    have hcut1 : ∀ ww, (Instr.sliceAt 25 (.slice ad n c) (some (.int .i64 (n1 : Int))) none none).run Tryd.prog ww = .ok (.slice (cutZ ad c n1 1) (n - n1) (c - n1)) ww := fun ww => run_cutZ_lo undBy elemBy sizeBy ad n c n1 ww (by omega)
    by_cases h2 : e2 = 0
    · subst h2
      rw [if_neg (by simp)] at HF1
      have hsub : (n : Int) - (n1 : Int) - (n2 : Int) = ((n - n1 - n2 : Nat) : Int) := by omega
      have hw40 : IntKind.u64.wrap ((n : Int) - (n1 : Int) - (n2 : Int)) = (n : Int) - (n1 : Int) - (n2 : Int) := by simp [IntKind.wrap, IntKind.signed, IntKind.bits]; omega
      rw [HBL.out] at HF1
      by_cases h3 : n - n1 - n2 < v2
      · rw [if_pos h3] at HF1
        have HFF : Hid (Cn20.getF bs = (Cn20.zeroF, 0, 1)) := HF1
        have d3 : decide ((n : Int) - (n1 : Int) - (n2 : Int) < y2) = true := decide_eq_true (by omega)
        clear HF HF1 hrc hg1 hg2 hy2 hp1 hp2 h3 hsub
        go_enter Tryd.func35, Tryd.ntmps35
        go_wp2_with fail
        refine Calls.mono HG1.out ?_
        rintro z w1 ⟨rfl, rfl⟩
        go_wp2_with fail
        refine Calls.mono HG2.out ?_
        rintro z w1 ⟨rfl, rfl⟩
        go_wp2
        refine bodyPost_ret (v := .tuple #[.agg #[.int .u64 0, .slice none 0 0], .int .i64 0, .int .i64 1]) (by simp [results, Tryd.results35, go_sem]) rfl ?_
        exact ⟨_, by rw [HFF.out]; rfl, by rw [HFF.out]; exact byO_nil _ _, HCA.out⟩
      · rw [if_neg h3] at HF1
        have HFF : Hid (Cn20.getF bs = (⟨v1, (bs.drop (n1 + n2)).take v2⟩, n1 + n2 + v2, 0)) := HF1
        have d3 : decide ((n : Int) - (n1 : Int) - (n2 : Int) < y2) = false := decide_eq_false (by omega)
        have hy2n : y2 ≤ (n : Int) := by omega
        obtain ⟨M, hM⟩ : ∃ M : Nat, n1 + n2 = M := ⟨_, rfl⟩
        obtain ⟨H, hH⟩ : ∃ H : Nat, M + v2 = H := ⟨_, rfl⟩
        have hcut2 : ∀ ww, (Instr.sliceAt 25 (.slice ad n c) (some (.int .i64 (M : Int))) (some (.int .i64 (H : Int))) none).run Tryd.prog ww = .ok (.slice (cutZ ad c M 1) v2 (c - M)) ww := fun ww => by
          have h9 := run_cutZ_lh ad n c M H ww (by omega) (by omega)
          rw [show H - M = v2 by omega] at h9
          exact h9
        have HW1 : Hid (IntKind.i64.wrap ((n1 : Int) + (n2 : Int)) = (M : Int)) := by show _ = _; simp [IntKind.wrap, IntKind.signed, IntKind.bits]; omega
        have HW2 : Hid (IntKind.i64.wrap y2 = y2) := by show _ = _; simp [IntKind.wrap, IntKind.signed, IntKind.bits]; omega
        have HW3 : Hid (IntKind.i64.wrap ((M : Int) + y2) = (H : Int)) := by show _ = _; simp [IntKind.wrap, IntKind.signed, IntKind.bits]; omega
        have HC2 : Hid (∀ ww, (Instr.sliceAt 25 (.slice ad n c) (some (.int .i64 (M : Int))) (some (.int .i64 (H : Int))) none).run Tryd.prog ww = .ok (.slice (cutZ ad c M 1) v2 (c - M)) ww) := hcut2
        clear hcut2
        have HY2 : Hid ((v2 : Int) = y2) := hy2
        have HV2 : Hid (M + v2 ≤ n ∧ n1 + n2 = M ∧ M + v2 = H) := ⟨by omega, hM, hH⟩
        have hMn : (M : Int) ≤ (n : Int) := by omega
        have hHn : (H : Int) ≤ (n : Int) := by omega
        have cB := chg_one (w0.alloc (.cells #[.int .u64 0, .slice none 0 0] 54)) (.cells #[.int .u64 y1, .slice none 0 0] 54)
        have hbF := heap_alloc_last (w0.alloc (.cells #[.int .u64 0, .slice none 0 0] 54)) (.cells #[.int .u64 y1, .slice none 0 0] 54)
        rw [World.size_alloc] at hbF
        have HBF : Hid (((w0.alloc (.cells #[.int .u64 0, .slice none 0 0] 54)).alloc (.cells #[.int .u64 y1, .slice none 0 0] 54)).heap[w0.heap.size + 1]? = some (.cells #[.int .u64 y1, .slice none 0 0] 54 (0, 0))) := hbF
        have HBR : Hid (((w0.alloc (.cells #[.int .u64 0, .slice none 0 0] 54)).alloc (.cells #[.int .u64 y1, .slice none 0 0] 54)).heap[w0.heap.size]? = some (.cells #[.int .u64 0, .slice none 0 0] 54 (0, 0))) := blk_keep HBA.out cB (fun f => f)
        have HCB : Hid (Chg (fun _ => False) w0 ((w0.alloc (.cells #[.int .u64 0, .slice none 0 0] 54)).alloc (.cells #[.int .u64 y1, .slice none 0 0] 54))) := chg_then HCA.out cB
        have p1 : ((w0.alloc (.cells #[.int .u64 0, .slice none 0 0] 54)).alloc (.cells #[.int .u64 y1, .slice none 0 0] 54)).cell? ⟨w0.heap.size + 1, 1, none⟩ = some (.slice none 0 0) := cell1 hbF
        have hown : ((w0.alloc (.cells #[.int .u64 0, .slice none 0 0] 54)).alloc (.cells #[.int .u64 y1, .slice none 0 0] 54)).drew.ownsRow (w0.heap.size + 2) 5 1 (.slice none 0 0) 0 [] := World.ownsRow_nil _ _ _ _
        have hsrc : From ((w0.alloc (.cells #[.int .u64 0, .slice none 0 0] 54)).alloc (.cells #[.int .u64 y1, .slice none 0 0] 54)).drew (cutZ ad c M 1) v2 (c - M) 1 ((nums ((bs.drop M).take v2)).map (Value.int .u8)) := (row8_cutZ2 (Bk.row8_chg (Bk.row8_chg HB.out HCB.out) (Chg.refl _ ((w0.alloc (.cells #[.int .u64 0, .slice none 0 0] 54)).alloc (.cells #[.int .u64 y1, .slice none 0 0] 54))).drew) hc (by omega)).src
        have hone := oneB ((bs.drop M).take v2)
        have hBs : w0.heap.size + 2 ≤ ((w0.alloc (.cells #[.int .u64 0, .slice none 0 0] 54)).alloc (.cells #[.int .u64 y1, .slice none 0 0] 54)).drew.heap.size := by
          show _ ≤ ((w0.alloc (.cells #[.int .u64 0, .slice none 0 0] 54)).alloc (.cells #[.int .u64 y1, .slice none 0 0] 54)).heap.size
          rw [World.size_alloc, World.size_alloc]
          omega
        clear HF HF1 hrc hg1 hg2 hy2 hp1 hp2 h3 hsub cB hbF hM hH
        go_enter Tryd.func35, Tryd.ntmps35
        go_wp2_with fail
        refine Calls.mono HG1.out ?_
        rintro z w1 ⟨rfl, rfl⟩
        go_wp2_with fail
        refine Calls.mono HG2.out ?_
        rintro z w1 ⟨rfl, rfl⟩
        go_upto_region 10 with fail
        have hw1 := HW1.out
        have hw2 := HW2.out
        have hw3 := HW3.out
        have hcut2 := HC2.out
        have hv2n : v2 ≤ n := by have := HV2.out; omega
        generalize hWB : (w0.alloc (.cells #[.int .u64 0, .slice none 0 0] 54)).alloc (.cells #[.int .u64 y1, .slice none 0 0] 54) = WB at *
        go_region_law (refine step_append_moved (by rfl) (.tmp 46) (.tmp 57) 25 (by rfl) (w0.heap.size + 2) 5 iu (.int .u8 0) 1 1 Tryd.underlying25 hiu hu0 hu1 hu2 rfl (by decide) _ 0 [] (by rfl) (cutZ ad c M 1) v2 (c - M) (by rfl) ((nums ((bs.drop M).take v2)).map (Value.int .u8)) hown hsrc hone (by unfold maxLen; omega) (by omega) hBs ?_; intro v9 w9 ho9 hg9 hm9; have hC9 : Chg (fun _ => False) WB w9 := (Chg.refl _ WB).drew.grown hg9 (fun g e => by simp [Value.ownBlock] at e); have k9 := blk_keep HBF.out hC9 (fun f => f); have k8 := blk_keep HBR.out hC9 (fun f => f); have r9 := cell1 k9; have z9 := free1 k9; try simp only [List.nil_append, Nat.zero_add] at ho9; obtain ⟨a9, d9, rfl⟩ := form1 ho9)
        all_goals
          have hb1 := blk_set1 (u := .slice a9 v2 d9) k9
          have hCs : Chg (fun g => g = w0.heap.size + 1) w9 (w9.setCell ⟨w0.heap.size + 1, 1, none⟩ (.slice a9 v2 d9)) := Chg.setCell (S := fun g => g = w0.heap.size + 1) (Chg.refl _ w9) (p := ⟨w0.heap.size + 1, 1, none⟩) (.inl rfl) _
          have hb2 := blk_keep k8 hCs (fun e => by omega)
          have ho2 := ownsRow_keep ho9 hCs (fun g e f => by have := (ho9.lt g e).1; omega)
          have HO2 : Hid ((w9.setCell ⟨w0.heap.size + 1, 1, none⟩ (.slice a9 v2 d9)).ownsRow (w0.heap.size + 2) 5 1 (.slice a9 v2 d9) v2 ((nums ((bs.drop M).take v2)).map (Value.int .u8))) := ho2
          have HCW : Hid (Chg (fun _ => False) w0 (w9.setCell ⟨w0.heap.size + 1, 1, none⟩ (.slice a9 v2 d9))) := (chg_then HCB.out hC9).trans hCs (fun g e => .inr (by omega))
          have HB2 : Hid ((w9.setCell ⟨w0.heap.size + 1, 1, none⟩ (.slice a9 v2 d9)).heap[w0.heap.size]? = some (.cells #[.int .u64 0, .slice none 0 0] 54 (0, 0))) := hb2
          have s0 := cell0 hb1
          have s1 := cell1 hb1
          have t0 := cell0 hb2
          have t1 := cell1 hb2
          have f0 := free0 hb2
          have f1 := free1 hb2
          clear hb1 hCs hb2 ho2 ho9 hg9 hm9 hC9 k9 k8 r9 z9 hw1 hw2 hw3 hcut2 hown hsrc hone hBs
          go_upto_region 11 with fail
          generalize w9.setCell ⟨w0.heap.size + 1, 1, none⟩ (.slice a9 v2 d9) = W9 at *
          have hX := blk_set0 (u := .int .u64 y1) HB2.out
          have hY := blk_set1 (u := .slice a9 v2 d9) hX
          have t2 := cell1 hX
          have f2 := free1 hX
          have q0 := cell0 hY
          have q1 := cell1 hY
          have hS1 : Chg (fun g => g = w0.heap.size) W9 (W9.setCell ⟨w0.heap.size, 0, none⟩ (.int .u64 y1)) := Chg.setCell (S := fun g => g = w0.heap.size) (Chg.refl _ W9) (p := ⟨w0.heap.size, 0, none⟩) (.inl rfl) _
          have hS2 := hS1.setCell (p := ⟨w0.heap.size, 1, none⟩) (.inl rfl) (.slice a9 v2 d9)
          have HOF : Hid (((W9.setCell ⟨w0.heap.size, 0, none⟩ (.int .u64 y1)).setCell ⟨w0.heap.size, 1, none⟩ (.slice a9 v2 d9)).ownsRow (w0.heap.size + 2) 5 1 (.slice a9 v2 d9) v2 ((nums ((bs.drop M).take v2)).map (Value.int .u8))) := ownsRow_keep HO2.out hS2 (fun g e f => by have := (HO2.out.lt g e).1; omega)
          have HCF : Hid (Chg (fun _ => False) w0 ((W9.setCell ⟨w0.heap.size, 0, none⟩ (.int .u64 y1)).setCell ⟨w0.heap.size, 1, none⟩ (.slice a9 v2 d9))) := HCW.out.trans hS2 (fun g e => .inr (by omega))
          clear hX hY hS1 hS2 HB2
          go_wp2
          refine bodyPost_ret (v := .tuple #[.agg #[.int .u64 y1, .slice a9 v2 d9], .int .i64 ((n1 : Int) + (n2 : Int) + y2), .int .i64 0]) (by simp [results, Tryd.results35, go_sem, q0, q1]) rfl ?_
          refine ⟨.slice a9 v2 d9, ?_, ?_, HCF.out⟩
          · rw [HFF.out, ← HY1.out, ← HY2.out]
            simp
          · rw [HFF.out]
            have hlv : ((bs.drop M).take v2).length = v2 := by rw [List.length_take, List.length_drop, HBL.out]; have := HV2.out; omega
            simp only
            rw [HV2.out.2.1]
            unfold ByO
            rw [hlv]
            exact owns_base HOF.out (by omega)
    · have hE2 : (e2 = 1 ∨ e2 = 2) := by rcases hp2.2.2 with ⟨h, _⟩ | ⟨h, _⟩; exact absurd h h2; exact h
      rw [if_pos (by exact h2)] at HF1
      have HFF : Hid (Cn20.getF bs = (Cn20.zeroF, 0, e2)) := HF1
      have x2 : (e2 != 0) = true := by simp [h2]
      clear HF HF1 hrc hg1 hg2 hy2 hp1 hp2 h2 hE2
      go_enter Tryd.func35, Tryd.ntmps35
      go_wp2_with fail
      refine Calls.mono HG1.out ?_
      rintro z w1 ⟨rfl, rfl⟩
      go_wp2_with fail
      refine Calls.mono HG2.out ?_
      rintro z w1 ⟨rfl, rfl⟩
      go_wp2
      refine bodyPost_ret (v := .tuple #[.agg #[.int .u64 0, .slice none 0 0], .int .i64 0, .int .i64 e2]) (by simp [results, Tryd.results35, go_sem]) rfl ?_
      exact ⟨_, by rw [HFF.out]; rfl, by rw [HFF.out]; exact byO_nil _ _, HCA.out⟩
  · have HF1 := HF.out
    rw [if_pos (by exact h0)] at HF1
    have HFF : Hid (Cn20.getF bs = (Cn20.zeroF, 0, e1)) := HF1
    have x1 : (e1 != 0) = true := by simp [h0]
    clear HF HF1 hg1 hp1 h0
    go_enter Tryd.func35, Tryd.ntmps35
    go_wp2_with fail
    refine Calls.mono HG1.out ?_
    rintro z w1 ⟨rfl, rfl⟩
    go_wp2
    refine bodyPost_ret (v := .tuple #[.agg #[.int .u64 0, .slice none 0 0], .int .i64 0, .int .i64 e1]) (by simp [results, Tryd.results35, go_sem]) rfl ?_
    exact ⟨_, by rw [HFF.out]; rfl, by rw [HFF.out]; exact byO_nil _ _, HCA.out⟩
end Go.Proofs.YtkncbanodpfccaaDoor
