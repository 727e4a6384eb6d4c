/- StateNext and StateBack; of no statement by themselves. -/
import Derived.Test.YtkochonjfjlhpaaDoorSd
import Derived.Test.YtkochonjfjlhpaaDoorSq
namespace Go.Proofs.YtkochonjfjlhpaaDoor
open Go.RowKit
open St12
set_option linter.unusedVariables false
set_option linter.unusedSimpArgs false

theorem heap3 (w : World) (o1 o2 o3 : Obj) : (((w.alloc o1).alloc o2).alloc o3).heap[w.heap.size]? = some o1 ∧ (((w.alloc o1).alloc o2).alloc o3).heap[w.heap.size + 1]? = some o2 ∧ (((w.alloc o1).alloc o2).alloc o3).heap[w.heap.size + 1 + 1]? = some o3 := by
  refine ⟨(Below.heap_alloc _ _ _ (by simp <;> omega)).trans ((Below.heap_alloc _ _ _ (by simp)).trans (heap_alloc_last w _)), ?_, ?_⟩
  · have := heap_alloc_last (w.alloc o1) o2
    rw [World.size_alloc] at this
    exact (Below.heap_alloc _ _ _ (by simp)).trans this
  · have := heap_alloc_last ((w.alloc o1).alloc o2) o3
    rw [World.size_alloc, World.size_alloc] at this
    exact this
set_option maxHeartbeats 4000000 in
theorem snext_any {Tab : World → Prop} (S : StSpec Tab) (n a b c d k yb yl yd : Int) (hs : (⟨n, a, b, c, d⟩ : Stt).I) (hy : (⟨k, yb, yl, yd⟩ : Sym).I) (w : World) (hT : Tab w) : Calls Tryd.prog 8 #[.int .i64 n, .agg #[.int .i64 a, .int .i64 b, .int .i64 c, .int .i64 d], .agg #[.int .i64 k, .int .u8 yb, .int .i64 yl, .int .i64 yd]] w fun e w' => e = .returned (.bool true) ∧ Chg (fun _ => False) w w' := by
  have cB : Chg (fun _ => False) w (((w.alloc (.cells #[.int .i64 a, .int .i64 b, .int .i64 c, .int .i64 d] 36)).alloc (.cells #[.int .i64 k, .int .u8 yb, .int .i64 yl, .int .i64 yd] 44)).alloc (.cells #[.int .i64 n, .int .i64 a, .int .i64 b, .int .i64 c, .int .i64 d] 38)) := (((Chg.refl _ w).alloc _).alloc _).alloc _
  obtain ⟨hk1, hk2, hk3⟩ := heap3 w (.cells #[.int .i64 a, .int .i64 b, .int .i64 c, .int .i64 d] 36) (.cells #[.int .i64 k, .int .u8 yb, .int .i64 yl, .int .i64 yd] 44) (.cells #[.int .i64 n, .int .i64 a, .int .i64 b, .int .i64 c, .int .i64 d] 38)
  have hp1 : (w.alloc (.cells #[.int .i64 a, .int .i64 b, .int .i64 c, .int .i64 d] 36)).heap[w.heap.size]? = some (.cells #[.int .i64 a, .int .i64 b, .int .i64 c, .int .i64 d] 36 (0, 0)) := heap_alloc_last w _
  have hp2 := blk_keep hp1 (chg_one _ (.cells #[.int .i64 k, .int .u8 yb, .int .i64 yl, .int .i64 yd] 44)) (fun f => f)
  obtain ⟨i0, i1, i2, i3⟩ := cells4y hp2
  have HTB : Hid _ := S.keep hT cB
  have HCB : Hid _ := cB
  have HK : Hid ((((w.alloc (.cells #[.int .i64 a, .int .i64 b, .int .i64 c, .int .i64 d] 36)).alloc (.cells #[.int .i64 k, .int .u8 yb, .int .i64 yl, .int .i64 yd] 44)).alloc (.cells #[.int .i64 n, .int .i64 a, .int .i64 b, .int .i64 c, .int .i64 d] 38)).heap[w.heap.size]? = some (.cells #[.int .i64 a, .int .i64 b, .int .i64 c, .int .i64 d] 36 (0, 0)) ∧ (((w.alloc (.cells #[.int .i64 a, .int .i64 b, .int .i64 c, .int .i64 d] 36)).alloc (.cells #[.int .i64 k, .int .u8 yb, .int .i64 yl, .int .i64 yd] 44)).alloc (.cells #[.int .i64 n, .int .i64 a, .int .i64 b, .int .i64 c, .int .i64 d] 38)).heap[w.heap.size + 1]? = some (.cells #[.int .i64 k, .int .u8 yb, .int .i64 yl, .int .i64 yd] 44 (0, 0)) ∧ (((w.alloc (.cells #[.int .i64 a, .int .i64 b, .int .i64 c, .int .i64 d] 36)).alloc (.cells #[.int .i64 k, .int .u8 yb, .int .i64 yl, .int .i64 yd] 44)).alloc (.cells #[.int .i64 n, .int .i64 a, .int .i64 b, .int .i64 c, .int .i64 d] 38)).heap[w.heap.size + 1 + 1]? = some (.cells #[.int .i64 n, .int .i64 a, .int .i64 b, .int .i64 c, .int .i64 d] 38 (0, 0))) := ⟨hk1, hk2, hk3⟩
  have H1 : Hid (∀ w', Tab w' → Calls Tryd.prog 15 #[.agg #[.int .i64 n, .int .i64 a, .int .i64 b, .int .i64 c, .int .i64 d], .agg #[.int .i64 k, .int .u8 yb, .int .i64 yl, .int .i64 yd]] w' fun e w'' => e = .returned (.tuple #[stv (nxt ⟨n, a, b, c, d⟩ ⟨k, yb, yl, yd⟩).1, .int .i64 (nxt ⟨n, a, b, c, d⟩ ⟨k, yb, yl, yd⟩).2]) ∧ Chg (fun _ => False) w' w'') := fun w' h => S.next ⟨n, a, b, c, d⟩ ⟨k, yb, yl, yd⟩ w' h hs hy
  have H2 : Hid (∀ w', Calls Tryd.prog 23 #[.agg #[.int .i64 n, .int .i64 a, .int .i64 b, .int .i64 c, .int .i64 d], .agg #[.int .i64 k, .int .u8 yb, .int .i64 yl, .int .i64 yd]] w' fun e w'' => e = .returned (.tuple #[stv (nxt ⟨n, a, b, c, d⟩ ⟨k, yb, yl, yd⟩).1, .int .i64 (nxt ⟨n, a, b, c, d⟩ ⟨k, yb, yl, yd⟩).2]) ∧ Chg (fun _ => False) w' w'') := fun w' => rnext_any n a b c d k yb yl yd hs hy w'
  have H3 : Hid (∀ w', Tab w' → Calls Tryd.prog 17 #[.agg #[.int .i64 n, .int .i64 a, .int .i64 b, .int .i64 c, .int .i64 d]] w' fun e w'' => e = .returned (.bool (St12.lit n)) ∧ Chg (fun _ => False) w' w'') := fun w' h => S.lit ⟨n, a, b, c, d⟩ w' h hs
  have HFX : Hid (∀ w', Tab w' → Calls Tryd.prog 10 #[] w' fun e w'' => e = .returned (.bool true) ∧ Chg (fun _ => False) w' w'') := fun w' h => fixed_any S w' h
  obtain ⟨X, hX⟩ : ∃ X, (nxt ⟨n, a, b, c, d⟩ ⟨k, yb, yl, yd⟩).1 = X := ⟨_, rfl⟩
  obtain ⟨E, hE⟩ : ∃ E, (nxt ⟨n, a, b, c, d⟩ ⟨k, yb, yl, yd⟩).2 = E := ⟨_, rfl⟩
  rw [hX, hE] at H1 H2
  obtain ⟨x0, x1, x2, x3, x4⟩ := X
  unfold stv at H1 H2
  simp only at H1 H2
  have qE : (E == E) = true := by simp
  have q0 : (x0 == x0) = true := by simp
  have q4 := fun ww => same4 ww x1 x2 x3 x4
  clear hX hE hT cB hk1 hk2 hk3 hp1 hp2
  go_enter Tryd.func8, Tryd.ntmps8
  obtain ⟨j0, j1, j2, j3, j4⟩ := cells5 HK.out.2.2
  obtain ⟨l0, l1, l2, l3⟩ := cells4y HK.out.2.1
  go_wp2_with fail
  clear i0 i1 i2 i3 j0 j1 j2 j3 j4 l0 l1 l2 l3
  generalize ((w.alloc (.cells #[.int .i64 a, .int .i64 b, .int .i64 c, .int .i64 d] 36)).alloc (.cells #[.int .i64 k, .int .u8 yb, .int .i64 yl, .int .i64 yd] 44)).alloc (.cells #[.int .i64 n, .int .i64 a, .int .i64 b, .int .i64 c, .int .i64 d] 38) = W0 at *
  refine Calls.mono (H1.out _ HTB.out) ?_
  rintro z w1 ⟨rfl, c1⟩
  have cN := chg_one w1 (.cells #[.int .i64 x0, .int .i64 x1, .int .i64 x2, .int .i64 x3, .int .i64 x4] 38)
  have hbx := heap_alloc_last w1 (.cells #[.int .i64 x0, .int .i64 x1, .int .i64 x2, .int .i64 x3, .int .i64 x4] 38)
  have cc := chg_then c1 cN
  have HT1 : Hid (Tab (w1.alloc (.cells #[.int .i64 x0, .int .i64 x1, .int .i64 x2, .int .i64 x3, .int .i64 x4] 38))) := S.keep HTB.out cc
  have HC1 : Hid (Chg (fun _ => False) w (w1.alloc (.cells #[.int .i64 x0, .int .i64 x1, .int .i64 x2, .int .i64 x3, .int .i64 x4] 38))) := chg_then HCB.out cc
  have HKA := blk_keep HK.out.1 cc (fun f => f)
  have HKY := blk_keep HK.out.2.1 cc (fun f => f)
  have HK1 : Hid ((w1.alloc (.cells #[.int .i64 x0, .int .i64 x1, .int .i64 x2, .int .i64 x3, .int .i64 x4] 38)).heap[w.heap.size + 1 + 1]? = some (.cells #[.int .i64 n, .int .i64 a, .int .i64 b, .int .i64 c, .int .i64 d] 38 (0, 0))) := blk_keep HK.out.2.2 cc (fun f => f)
  obtain ⟨i0, i1, i2, i3⟩ := cells4y HKA
  obtain ⟨l0, l1, l2, l3⟩ := cells4y HKY
  have HBX : Hid _ := hbx
  clear H1 c1 cN cc HTB HCB HK HKA HKY hbx
  go_wp2_with fail
  clear i0 i1 i2 i3 l0 l1 l2 l3
  generalize w1.heap.size = g1 at *
  generalize w1.alloc (.cells #[.int .i64 x0, .int .i64 x1, .int .i64 x2, .int .i64 x3, .int .i64 x4] 38) = W1 at *
  refine Calls.mono (H2.out _) ?_
  rintro z w2 ⟨rfl, c2⟩
  have cN := chg_one w2 (.cells #[.int .i64 x0, .int .i64 x1, .int .i64 x2, .int .i64 x3, .int .i64 x4] 56)
  have hby := heap_alloc_last w2 (.cells #[.int .i64 x0, .int .i64 x1, .int .i64 x2, .int .i64 x3, .int .i64 x4] 56)
  have cc := chg_then c2 cN
  have HT2 : Hid (Tab (w2.alloc (.cells #[.int .i64 x0, .int .i64 x1, .int .i64 x2, .int .i64 x3, .int .i64 x4] 56))) := S.keep HT1.out cc
  have HC2 : Hid (Chg (fun _ => False) w (w2.alloc (.cells #[.int .i64 x0, .int .i64 x1, .int .i64 x2, .int .i64 x3, .int .i64 x4] 56))) := chg_then HC1.out cc
  obtain ⟨m0, m1, m2, m3, m4⟩ := cells5 (blk_keep HBX.out cc (fun f => f))
  obtain ⟨n0, n1, n2, n3, n4⟩ := cells5 hby
  obtain ⟨o0, o1, o2, o3, o4⟩ := cells5 (blk_keep HK1.out cc (fun f => f))
  clear H2 c2 cN cc HT1 HC1 HK1 HBX hby
  go_wp2_with fail
  clear m0 m1 m2 m3 m4 n0 n1 n2 n3 n4 o0 o1 o2 o3 o4
  refine Calls.mono (H3.out _ HT2.out) ?_
  rintro z w3 ⟨rfl, c3⟩
  have HT3 : Hid (Tab w3) := S.keep HT2.out c3
  have HC3 : Hid (Chg (fun _ => False) w w3) := chg_then HC2.out c3
  clear H3 c3 HT2 HC2
  by_cases h0 : 0 ≤ n
  · have d0 : decide (0 ≤ n) = true := decide_eq_true h0
    by_cases h6 : n ≤ 6
    · have d6 : decide (n ≤ 6) = true := decide_eq_true h6
      have hl : St12.lit n = true := by unfold St12.lit; rw [d0, d6]; rfl
      rw [hl]
      go_wp2_with fail
      refine Calls.mono (HFX.out _ HT3.out) ?_
      rintro z w5 ⟨rfl, c5⟩
      have HC5 : Hid (Chg (fun _ => False) w w5) := chg_then HC3.out c5
      clear HFX c5 HT3 HC3
      go_wp2
      go_ret
      exact ⟨rfl, HC5.out⟩
    · have d6 : decide (n ≤ 6) = false := decide_eq_false h6
      have hl : St12.lit n = false := by unfold St12.lit; rw [d0, d6]; rfl
      rw [hl]
      go_wp2_with fail
      refine Calls.mono (HFX.out _ HT3.out) ?_
      rintro z w5 ⟨rfl, c5⟩
      have HC5 : Hid (Chg (fun _ => False) w w5) := chg_then HC3.out c5
      clear HFX c5 HT3 HC3
      go_wp2
      go_ret
      exact ⟨rfl, HC5.out⟩
  · have d0 : decide (0 ≤ n) = false := decide_eq_false h0
    have hl : St12.lit n = false := by unfold St12.lit; rw [d0]; rfl
    rw [hl]
    go_wp2_with fail
    refine Calls.mono (HFX.out _ HT3.out) ?_
    rintro z w5 ⟨rfl, c5⟩
    have HC5 : Hid (Chg (fun _ => False) w w5) := chg_then HC3.out c5
    clear HFX c5 HT3 HC3
    go_wp2
    go_ret
    exact ⟨rfl, HC5.out⟩
end Go.Proofs.YtkochonjfjlhpaaDoor
