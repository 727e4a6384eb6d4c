/- The document's Next; of no statement by itself. -/
import Derived.Test.YtkochonjfjlhpabDoorSc
import Derived.Test.YtkochonjfjlhpabDoorLastP
import Derived.Deep.DeepCutAuto
namespace Go.Proofs.YtkochonjfjlhpabDoor
open Go.RowKit
open St12
set_option linter.unusedVariables false
set_option linter.unusedSimpArgs false

/-- Five cells stored, one after the other. -/
def put5 (W : World) (g : Nat) (x0 x1 x2 x3 x4 : Value) : World := ((((W.setCell ⟨g, 0, none⟩ x0).setCell ⟨g, 1, none⟩ x1).setCell ⟨g, 2, none⟩ x2).setCell ⟨g, 3, none⟩ x3).setCell ⟨g, 4, none⟩ x4
structure Put5 (W : World) (g : Nat) (v0 v1 v2 v3 v4 x0 x1 x2 x3 x4 : Value) (t : TypeId) : Prop where
  k0 : W.cell? ⟨g, 0, none⟩ = some v0 ∧ W.frozen? ⟨g, 0, none⟩ = false
  k1 : (W.setCell ⟨g, 0, none⟩ x0).cell? ⟨g, 1, none⟩ = some v1 ∧ (W.setCell ⟨g, 0, none⟩ x0).frozen? ⟨g, 1, none⟩ = false
  k2 : ((W.setCell ⟨g, 0, none⟩ x0).setCell ⟨g, 1, none⟩ x1).cell? ⟨g, 2, none⟩ = some v2 ∧ ((W.setCell ⟨g, 0, none⟩ x0).setCell ⟨g, 1, none⟩ x1).frozen? ⟨g, 2, none⟩ = false
  k3 : (((W.setCell ⟨g, 0, none⟩ x0).setCell ⟨g, 1, none⟩ x1).setCell ⟨g, 2, none⟩ x2).cell? ⟨g, 3, none⟩ = some v3 ∧ (((W.setCell ⟨g, 0, none⟩ x0).setCell ⟨g, 1, none⟩ x1).setCell ⟨g, 2, none⟩ x2).frozen? ⟨g, 3, none⟩ = false
  k4 : ((((W.setCell ⟨g, 0, none⟩ x0).setCell ⟨g, 1, none⟩ x1).setCell ⟨g, 2, none⟩ x2).setCell ⟨g, 3, none⟩ x3).cell? ⟨g, 4, none⟩ = some v4 ∧ ((((W.setCell ⟨g, 0, none⟩ x0).setCell ⟨g, 1, none⟩ x1).setCell ⟨g, 2, none⟩ x2).setCell ⟨g, 3, none⟩ x3).frozen? ⟨g, 4, none⟩ = false
  blk : (((((W.setCell ⟨g, 0, none⟩ x0).setCell ⟨g, 1, none⟩ x1).setCell ⟨g, 2, none⟩ x2).setCell ⟨g, 3, none⟩ x3).setCell ⟨g, 4, none⟩ x4).heap[g]? = some (.cells #[x0, x1, x2, x3, x4] t (0, 0))
  chg : Chg (fun q => q = g) W (((((W.setCell ⟨g, 0, none⟩ x0).setCell ⟨g, 1, none⟩ x1).setCell ⟨g, 2, none⟩ x2).setCell ⟨g, 3, none⟩ x3).setCell ⟨g, 4, none⟩ x4)
theorem put5_of {W : World} {g : Nat} {v0 v1 v2 v3 v4 : Value} {t : TypeId} (h : W.heap[g]? = some (.cells #[v0, v1, v2, v3, v4] t (0, 0))) (x0 x1 x2 x3 x4 : Value) : Put5 W g v0 v1 v2 v3 v4 x0 x1 x2 x3 x4 t := by
  have h1 : (W.setCell ⟨g, 0, none⟩ x0).heap[g]? = some (.cells #[x0, v1, v2, v3, v4] t (0, 0)) := set_blk _ h
  have h2 : ((W.setCell ⟨g, 0, none⟩ x0).setCell ⟨g, 1, none⟩ x1).heap[g]? = some (.cells #[x0, x1, v2, v3, v4] t (0, 0)) := set_blk _ h1
  have h3 : (((W.setCell ⟨g, 0, none⟩ x0).setCell ⟨g, 1, none⟩ x1).setCell ⟨g, 2, none⟩ x2).heap[g]? = some (.cells #[x0, x1, x2, v3, v4] t (0, 0)) := set_blk _ h2
  have h4 : ((((W.setCell ⟨g, 0, none⟩ x0).setCell ⟨g, 1, none⟩ x1).setCell ⟨g, 2, none⟩ x2).setCell ⟨g, 3, none⟩ x3).heap[g]? = some (.cells #[x0, x1, x2, x3, v4] t (0, 0)) := set_blk _ h3
  have h5 : (((((W.setCell ⟨g, 0, none⟩ x0).setCell ⟨g, 1, none⟩ x1).setCell ⟨g, 2, none⟩ x2).setCell ⟨g, 3, none⟩ x3).setCell ⟨g, 4, none⟩ x4).heap[g]? = some (.cells #[x0, x1, x2, x3, x4] t (0, 0)) := set_blk _ h4
  exact ⟨⟨(cells5 h).1, (cells5f h).1⟩, ⟨(cells5 h1).2.1, (cells5f h1).2.1⟩, ⟨(cells5 h2).2.2.1, (cells5f h2).2.2.1⟩, ⟨(cells5 h3).2.2.2.1, (cells5f h3).2.2.2.1⟩, ⟨(cells5 h4).2.2.2.2, (cells5f h4).2.2.2.2⟩, h5, (((((Chg.refl (fun q => q = g) W).setCell (p := ⟨g, 0, none⟩) (.inl rfl) _).setCell (p := ⟨g, 1, none⟩) (.inl rfl) _).setCell (p := ⟨g, 2, none⟩) (.inl rfl) _).setCell (p := ⟨g, 3, none⟩) (.inl rfl) _).setCell (p := ⟨g, 4, none⟩) (.inl rfl) _⟩
theorem cells4y {w : World} {a : Nat} {x y z u : Value} {t : TypeId} (h : w.heap[a]? = some (.cells #[x, y, z, u] t (0, 0))) : w.cell? ⟨a, 0, none⟩ = some x ∧ w.cell? ⟨a, 1, none⟩ = some y ∧ w.cell? ⟨a, 2, none⟩ = some z ∧ w.cell? ⟨a, 3, none⟩ = some u :=
  ⟨by simp [World.cell?, h], by simp [World.cell?, h], by simp [World.cell?, h], by simp [World.cell?, h]⟩
set_option maxHeartbeats 8000000 in
set_option maxRecDepth 100000 in
theorem rnext_any (n a b c d k yb yl yd : Int) (hs : (⟨n, a, b, c, d⟩ : Stt).I) (hy : (⟨k, yb, yl, yd⟩ : Sym).I) (w : World) : Calls Tryd.prog 8 #[.agg #[.int .i64 n, .int .i64 a, .int .i64 b, .int .i64 c, .int .i64 d], .agg #[.int .i64 k, .int .u8 yb, .int .i64 yl, .int .i64 yd]] w fun e w' => e = .returned (.tuple #[stv (nxt ⟨n, a, b, c, d⟩ ⟨k, yb, yl, yd⟩).1, .int .i64 (nxt ⟨n, a, b, c, d⟩ ⟨k, yb, yl, yd⟩).2]) ∧ Chg (fun _ => False) w w' := by
  have cB : Chg (fun _ => False) w (((w.alloc (.cells #[.int .i64 n, .int .i64 a, .int .i64 b, .int .i64 c, .int .i64 d] 27)).alloc (.cells #[.int .i64 k, .int .u8 yb, .int .i64 yl, .int .i64 yd] 34)).alloc (.cells #[.int .i64 0, .int .i64 0, .int .i64 0, .int .i64 0, .int .i64 0] 27)) := (((Chg.refl _ w).alloc _).alloc _).alloc _
  have HS : Hid ((((w.alloc (.cells #[.int .i64 n, .int .i64 a, .int .i64 b, .int .i64 c, .int .i64 d] 27)).alloc (.cells #[.int .i64 k, .int .u8 yb, .int .i64 yl, .int .i64 yd] 34)).alloc (.cells #[.int .i64 0, .int .i64 0, .int .i64 0, .int .i64 0, .int .i64 0] 27)).heap[w.heap.size]? = some (.cells #[.int .i64 n, .int .i64 a, .int .i64 b, .int .i64 c, .int .i64 d] 27 (0, 0))) := (Below.heap_alloc _ _ _ (by simp <;> omega)).trans ((Below.heap_alloc _ _ _ (by simp)).trans (heap_alloc_last w _))
  have HYB : Hid ((((w.alloc (.cells #[.int .i64 n, .int .i64 a, .int .i64 b, .int .i64 c, .int .i64 d] 27)).alloc (.cells #[.int .i64 k, .int .u8 yb, .int .i64 yl, .int .i64 yd] 34)).alloc (.cells #[.int .i64 0, .int .i64 0, .int .i64 0, .int .i64 0, .int .i64 0] 27)).heap[w.heap.size + 1]? = some (.cells #[.int .i64 k, .int .u8 yb, .int .i64 yl, .int .i64 yd] 34 (0, 0))) := by
    have := heap_alloc_last (w.alloc (.cells #[.int .i64 n, .int .i64 a, .int .i64 b, .int .i64 c, .int .i64 d] 27)) (.cells #[.int .i64 k, .int .u8 yb, .int .i64 yl, .int .i64 yd] 34)
    rw [World.size_alloc] at this
    exact (Below.heap_alloc _ _ _ (by simp)).trans this
  have HZ : Hid ((((w.alloc (.cells #[.int .i64 n, .int .i64 a, .int .i64 b, .int .i64 c, .int .i64 d] 27)).alloc (.cells #[.int .i64 k, .int .u8 yb, .int .i64 yl, .int .i64 yd] 34)).alloc (.cells #[.int .i64 0, .int .i64 0, .int .i64 0, .int .i64 0, .int .i64 0] 27)).heap[w.heap.size + 1 + 1]? = some (.cells #[.int .i64 0, .int .i64 0, .int .i64 0, .int .i64 0, .int .i64 0] 27 (0, 0))) := by
    have := heap_alloc_last ((w.alloc (.cells #[.int .i64 n, .int .i64 a, .int .i64 b, .int .i64 c, .int .i64 d] 27)).alloc (.cells #[.int .i64 k, .int .u8 yb, .int .i64 yl, .int .i64 yd] 34)) (.cells #[.int .i64 0, .int .i64 0, .int .i64 0, .int .i64 0, .int .i64 0] 27)
    rw [World.size_alloc, World.size_alloc] at this
    exact this
  have HC : Hid _ := cB
  have HR : Hid (∀ w', Calls Tryd.prog 14 #[.agg #[.int .i64 n, .int .i64 a, .int .i64 b, .int .i64 c, .int .i64 d]] w' fun e w'' => e = .returned (.bool (decide (right ⟨n, a, b, c, d⟩))) ∧ Chg (fun _ => False) w' w'') := fun w' => rright_q ⟨n, a, b, c, d⟩ hs w'
  have HFO : Hid (∀ w', Calls Tryd.prog 15 #[.agg #[.int .i64 k, .int .u8 yb, .int .i64 yl, .int .i64 yd]] w' fun e w'' => e = .returned (.int .i64 (formed ⟨k, yb, yl, yd⟩)) ∧ Chg (fun _ => False) w' w'') := fun w' => rformed_q k yb yl yd hy.k hy.l hy.d w'
  obtain ⟨s0, s1, s2, s3, s4⟩ := cells5 HS.out
  clear cB
  go_enter Tryd.func8, Tryd.ntmps8
  go_wp2_with fail
  generalize ((w.alloc (.cells #[.int .i64 n, .int .i64 a, .int .i64 b, .int .i64 c, .int .i64 d] 27)).alloc (.cells #[.int .i64 k, .int .u8 yb, .int .i64 yl, .int .i64 yd] 34)).alloc (.cells #[.int .i64 0, .int .i64 0, .int .i64 0, .int .i64 0, .int .i64 0] 27) = W at *
  refine (HR.out _).mono ?_
  rintro z w1 ⟨rfl, c1⟩
  have HS1 : Hid (w1.heap[w.heap.size]? = some (.cells #[.int .i64 n, .int .i64 a, .int .i64 b, .int .i64 c, .int .i64 d] 27 (0, 0))) := blk_keep HS.out c1 (fun f => f)
  have HY1 : Hid (w1.heap[w.heap.size + 1]? = some (.cells #[.int .i64 k, .int .u8 yb, .int .i64 yl, .int .i64 yd] 34 (0, 0))) := blk_keep HYB.out c1 (fun f => f)
  have HZ1 : Hid (w1.heap[w.heap.size + 1 + 1]? = some (.cells #[.int .i64 0, .int .i64 0, .int .i64 0, .int .i64 0, .int .i64 0] 27 (0, 0))) := blk_keep HZ.out c1 (fun f => f)
  have HC1 : Hid (Chg (fun _ => False) w w1) := chg_then HC.out c1
  clear c1 HR HS HYB HZ HC s0 s1 s2 s3 s4
  by_cases hr : right ⟨n, a, b, c, d⟩
  · rw [decide_eq_true hr]
    have HRT : Hid (right ⟨n, a, b, c, d⟩) := hr
    clear hr
    obtain ⟨y0, y1, y2, y3⟩ := cells4y HY1.out
    go_wp2_with fail
    refine (HFO.out _).mono ?_
    rintro z W0 ⟨rfl, c2⟩
    have HS2 : Hid (W0.heap[w.heap.size]? = some (.cells #[.int .i64 n, .int .i64 a, .int .i64 b, .int .i64 c, .int .i64 d] 27 (0, 0))) := blk_keep HS1.out c2 (fun f => f)
    have HY2 : Hid (W0.heap[w.heap.size + 1]? = some (.cells #[.int .i64 k, .int .u8 yb, .int .i64 yl, .int .i64 yd] 34 (0, 0))) := blk_keep HY1.out c2 (fun f => f)
    have HZ2 : Hid (W0.heap[w.heap.size + 1 + 1]? = some (.cells #[.int .i64 0, .int .i64 0, .int .i64 0, .int .i64 0, .int .i64 0] 27 (0, 0))) := blk_keep HZ1.out c2 (fun f => f)
    have HC2 : Hid (Chg (fun _ => False) w W0) := chg_then HC1.out c2
    clear c2 HFO HS1 HY1 HZ1 HC1 y0 y1 y2 y3
    by_cases hf : formed ⟨k, yb, yl, yd⟩ = 0
    · have HFK : Hid (formed ⟨k, yb, yl, yd⟩ = 0) := hf
      rw [hf]
      obtain ⟨s0, s1, s2, s3, s4⟩ := cells5 HS2.out
      obtain ⟨y0, y1, y2, y3⟩ := cells4y HY2.out
      obtain ⟨mn, hmn⟩ : ∃ mn, mvd n k = mn := ⟨_, rfl⟩
      have HMV : Hid (∀ ww, Calls Tryd.prog 16 #[.int .i64 n, .int .i64 k] ww fun e w' => e = .returned (.int .i64 mn) ∧ w' = ww) := fun ww => by
        have := moved_q n k HRT.out.1 hy.k ww
        rw [hmn] at this
        exact this
      have HNX : Hid (nxt ⟨n, a, b, c, d⟩ ⟨k, yb, yl, yd⟩ = (⟨mn, (reps ⟨n, a, b, c, d⟩ ⟨k, yb, yl, yd⟩).1, (reps ⟨n, a, b, c, d⟩ ⟨k, yb, yl, yd⟩).2.1, (reps ⟨n, a, b, c, d⟩ ⟨k, yb, yl, yd⟩).2.2.1, (reps ⟨n, a, b, c, d⟩ ⟨k, yb, yl, yd⟩).2.2.2⟩, 0)) := by
        show _ = _
        unfold nxt
        rw [if_neg (not_not_intro HRT.out), if_neg (not_not_intro hf), ← hmn]
      clear hf hmn
      go_wp2_with fail
      refine wp_region_phase (mk := fun u => #[_, _, _, _, _, _, _, _, u 8, _, _, _, _, _, _, _, _, _, _, _, _, _, u 22, u 23, u 24, u 25, u 26, u 27, u 28, u 29, _, _, _, _, _, _, _, _, _, _, _, _, _, _, _, _, _, _, _, _, _, _, _, _, _, _, _, _, _, _, _, _, _, _, _, _, _, _, _, _, _, _, _, _]) (G := lookG [(22, .pointer (some ⟨w.heap.size, 0, none⟩)), (23, .int .i64 n), (24, .pointer (some ⟨(w.heap.size + 1), 0, none⟩)), (25, .int .i64 k), (26, .int .i64 mn), (27, .pointer (some ⟨w.heap.size, 1, none⟩)), (28, .agg #[.int .i64 a, .int .i64 b, .int .i64 c, .int .i64 d]), (29, .agg #[.int .i64 mn, .int .i64 a, .int .i64 b, .int .i64 c, .int .i64 d])]) (J := fun nn u ww => Chg (fun _ => False) W0 ww ∧ (nn = 1 → ∃ b8, u 8 = .pointer (some ⟨b8, 0, none⟩) ∧ W0.heap.size ≤ b8 ∧ ww.heap[b8]? = some (.cells #[.int .i64 0, .int .i64 0, .int .i64 0, .int .i64 0, .int .i64 0] 27 (0, 0)))) [8] (fun _ => undef) rfl (by kernel_rfl) 9 _ rfl rfl (by kernel_rfl) (by kernel_rfl) (by kernel_rfl) (by decide) ?_ ?_ ?_ ?_ ?_
      · repeat (refine ⟨⟨_, rfl, fun _ _ => rfl⟩, ?_⟩)
        exact trivial
      · intro q u u2 ww h hj
        have e8 : u 8 = u2 8 := h 8 (by decide)
        show _ ∧ _
        rw [← e8]
        exact hj
      · exact ⟨(Chg.refl _ W0).drew, fun h => by omega⟩
      · refine ⟨?_, ?_, ?_, ?_, ?_, ?_, ?_, ?_, ?_, trivial⟩
        · show StepR _ _ _ _ _ _  _ -- 22
          unfold StepR
          intro q u w_ hj hd K hK
          clear hd
          go_simp
          exact hK.out (.pointer (some ⟨w.heap.size, 0, none⟩)) rfl
        · show StepR _ _ _ _ _ _  _ -- 23
          unfold StepR
          intro q u w_ hj hd K hK
          have h22 : u 22 = .pointer (some ⟨w.heap.size, 0, none⟩) := hd.get 0 (by kernel_rfl)
          clear hd
          simp only [h22] at hK
          have kq := cell_chg s0 hj.1
          clear hj
          go_simp
          exact hK.out _ rfl
        · show StepR _ _ _ _ _ _  _ -- 24
          unfold StepR
          intro q u w_ hj hd K hK
          clear hd
          go_simp
          exact hK.out (.pointer (some ⟨(w.heap.size + 1), 0, none⟩)) rfl
        · show StepR _ _ _ _ _ _  _ -- 25
          unfold StepR
          intro q u w_ hj hd K hK
          have h24 : u 24 = .pointer (some ⟨(w.heap.size + 1), 0, none⟩) := hd.get 2 (by kernel_rfl)
          clear hd
          simp only [h24] at hK
          have kq := cell_chg y0 hj.1
          clear hj
          go_simp
          exact hK.out _ rfl
        · show StepR _ _ _ _ _ _  _ -- 26
          unfold StepR
          intro q u w_ hj hd K hK
          have h23 : u 23 = .int .i64 n := hd.get 1 (by kernel_rfl)
          have h25 : u 25 = .int .i64 k := hd.get 3 (by kernel_rfl)
          clear hd
          simp only [h23, h25] at hK
          clear hj
          go_simp
          go_at_call 16
          refine (HMV.out w_).mono ?_
          rintro z w2 ⟨rfl, rfl⟩
          exact hK.out _ rfl
        · show StepR _ _ _ _ _ _  _ -- 27
          unfold StepR
          intro q u w_ hj hd K hK
          clear hd
          go_simp
          exact hK.out (.pointer (some ⟨w.heap.size, 1, none⟩)) rfl
        · show StepR _ _ _ _ _ _  _ -- 28
          unfold StepR
          intro q u w_ hj hd K hK
          have h27 : u 27 = .pointer (some ⟨w.heap.size, 1, none⟩) := hd.get 5 (by kernel_rfl)
          clear hd
          simp only [h27] at hK
          have z1 := cell_chg s1 hj.1
          have z2 := cell_chg s2 hj.1
          have z3 := cell_chg s3 hj.1
          have z4 := cell_chg s4 hj.1
          clear hj
          go_simp
          exact hK.out _ rfl
        · show StepR _ _ _ _ _ _  _ -- 29
          unfold StepR
          intro q u w_ hj hd K hK
          have h26 : u 26 = .int .i64 mn := hd.get 4 (by kernel_rfl)
          have h28 : u 28 = .agg #[.int .i64 a, .int .i64 b, .int .i64 c, .int .i64 d] := hd.get 6 (by kernel_rfl)
          clear hd
          simp only [h26, h28] at hK
          go_simp
          exact hK.out (.agg #[.int .i64 mn, .int .i64 a, .int .i64 b, .int .i64 c, .int .i64 d]) rfl
        · show StepW _ _ _ _ _ _ 0 _ -- 8
          unfold StepW
          intro u w_ hj hd K hK
          clear hd
          obtain ⟨hc, _⟩ := hj
          go_simp
          exact hK.out _ _ ⟨hc.alloc _, fun _ => ⟨_, rfl, hc.size, heap_alloc_last _ _⟩⟩ trivial
      · intro u w5 hj hA K hK
        obtain ⟨hc5, h8⟩ := hj
        obtain ⟨b8, e8, hb8, hk8⟩ := h8 rfl
        have e29 : u 29 = .agg #[.int .i64 mn, .int .i64 a, .int .i64 b, .int .i64 c, .int .i64 d] := hA.at 29 (by kernel_rfl)
        have hP := put5_of hk8 (.int .i64 mn) (.int .i64 a) (.int .i64 b) (.int .i64 c) (.int .i64 d)
        obtain ⟨⟨p0, f0⟩, ⟨p1, f1⟩, ⟨p2, f2⟩, ⟨p3, f3⟩, ⟨p4, f4⟩, hblk, hchg⟩ := hP
        have hl1 := lt_of_blk HS2.out
        have hl2 := lt_of_blk HY2.out
        have hl3 := lt_of_blk HZ2.out
        have HS3 : Hid ((((((w5.setCell ⟨b8, 0, none⟩ (.int .i64 mn)).setCell ⟨b8, 1, none⟩ (.int .i64 a)).setCell ⟨b8, 2, none⟩ (.int .i64 b)).setCell ⟨b8, 3, none⟩ (.int .i64 c)).setCell ⟨b8, 4, none⟩ (.int .i64 d)).heap[w.heap.size]? = some (.cells #[.int .i64 n, .int .i64 a, .int .i64 b, .int .i64 c, .int .i64 d] 27 (0, 0))) := blk_keep (blk_keep HS2.out hc5 (fun f => f)) hchg (by omega)
        have HY3 : Hid ((((((w5.setCell ⟨b8, 0, none⟩ (.int .i64 mn)).setCell ⟨b8, 1, none⟩ (.int .i64 a)).setCell ⟨b8, 2, none⟩ (.int .i64 b)).setCell ⟨b8, 3, none⟩ (.int .i64 c)).setCell ⟨b8, 4, none⟩ (.int .i64 d)).heap[w.heap.size + 1]? = some (.cells #[.int .i64 k, .int .u8 yb, .int .i64 yl, .int .i64 yd] 34 (0, 0))) := blk_keep (blk_keep HY2.out hc5 (fun f => f)) hchg (by omega)
        have HZ3 : Hid ((((((w5.setCell ⟨b8, 0, none⟩ (.int .i64 mn)).setCell ⟨b8, 1, none⟩ (.int .i64 a)).setCell ⟨b8, 2, none⟩ (.int .i64 b)).setCell ⟨b8, 3, none⟩ (.int .i64 c)).setCell ⟨b8, 4, none⟩ (.int .i64 d)).heap[w.heap.size + 1 + 1]? = some (.cells #[.int .i64 0, .int .i64 0, .int .i64 0, .int .i64 0, .int .i64 0] 27 (0, 0))) := blk_keep (blk_keep HZ2.out hc5 (fun f => f)) hchg (by omega)
        have HT3 : Hid ((((((w5.setCell ⟨b8, 0, none⟩ (.int .i64 mn)).setCell ⟨b8, 1, none⟩ (.int .i64 a)).setCell ⟨b8, 2, none⟩ (.int .i64 b)).setCell ⟨b8, 3, none⟩ (.int .i64 c)).setCell ⟨b8, 4, none⟩ (.int .i64 d)).heap[b8]? = some (.cells #[.int .i64 mn, .int .i64 a, .int .i64 b, .int .i64 c, .int .i64 d] 27 (0, 0))) := hblk
        have HC3 : Hid (Chg (fun _ => False) w (((((w5.setCell ⟨b8, 0, none⟩ (.int .i64 mn)).setCell ⟨b8, 1, none⟩ (.int .i64 a)).setCell ⟨b8, 2, none⟩ (.int .i64 b)).setCell ⟨b8, 3, none⟩ (.int .i64 c)).setCell ⟨b8, 4, none⟩ (.int .i64 d))) := (chg_then HC2.out hc5).trans hchg (fun z e => .inr (by have := HC2.out.size; omega))
        have HG : Hid (w.heap.size < b8 ∧ w.heap.size + 1 < b8 ∧ w.heap.size + 1 + 1 < b8) := ⟨by omega, by omega, by omega⟩
        clear hA h8 hk8 hblk hchg hc5 HS2 HY2 HZ2 HC2 s0 s1 s2 s3 s4 y0 y1 y2 y3 HMV hl1 hl2 hl3 hb8
        go_simp
        refine hK.out _ _ ?_
        clear hK e8 e29 K p0 f0 p1 f1 p2 f2 p3 f3 p4 f4
        generalize ((((w5.setCell ⟨b8, 0, none⟩ (.int .i64 mn)).setCell ⟨b8, 1, none⟩ (.int .i64 a)).setCell ⟨b8, 2, none⟩ (.int .i64 b)).setCell ⟨b8, 3, none⟩ (.int .i64 c)).setCell ⟨b8, 4, none⟩ (.int .i64 d) = Wt at *
        have HFT : Hid (Wt.heap[w.heap.size]? = some (.cells #[.int .i64 n, .int .i64 a, .int .i64 b, .int .i64 c, .int .i64 d] 27 (0, 0)) ∧ Wt.heap[w.heap.size + 1]? = some (.cells #[.int .i64 k, .int .u8 yb, .int .i64 yl, .int .i64 yd] 34 (0, 0)) ∧ Wt.heap[w.heap.size + 1 + 1]? = some (.cells #[.int .i64 0, .int .i64 0, .int .i64 0, .int .i64 0, .int .i64 0] 27 (0, 0)) ∧ Wt.heap[b8]? = some (.cells #[.int .i64 mn, .int .i64 a, .int .i64 b, .int .i64 c, .int .i64 d] 27 (0, 0)) ∧ Chg (fun _ => False) w Wt) := ⟨HS3.out, HY3.out, HZ3.out, HT3.out, HC3.out⟩
        obtain ⟨y0, y1, y2, y3⟩ := cells4y HY3.out
        obtain ⟨s0, s1, s2, s3, s4⟩ := cells5 HS3.out
        obtain ⟨g1, g2, g3⟩ := HG.out
        have hkind := formed_kind HFK.out
        simp only at hkind
        clear HS3 HY3 HZ3 HC3
        rcases hkind with rfl | ⟨rfl, hl1, hl2, hd1, hd2⟩ | ⟨rfl, hl1, hl2, hd1, hd2⟩ | rfl
        · clear HT3
          obtain ⟨_, _, hz, ht, hcc⟩ := HFT.out
          obtain ⟨t0, t1, t2, t3, t4⟩ := cells5 ht
          obtain ⟨⟨p0, f0⟩, ⟨p1, f1⟩, ⟨p2, f2⟩, ⟨p3, f3⟩, ⟨p4, f4⟩, hblk, hchg⟩ := put5_of hz (.int .i64 mn) (.int .i64 a) (.int .i64 b) (.int .i64 c) (.int .i64 d)
          have HE : Hid _ := cells5 hblk
          have HCE : Hid (Chg (fun _ => False) w _) := hcc.trans hchg (fun z e => .inr (by omega))
          clear hz ht hcc hblk hchg
          go_wp2
          obtain ⟨q0, q1, q2, q3, q4⟩ := HE.out
          refine bodyPost_ret (v := .tuple #[.agg #[.int .i64 mn, .int .i64 a, .int .i64 b, .int .i64 c, .int .i64 d], .int .i64 0]) (by simp [results, Tryd.results8, go_sem, q0, q1, q2, q3, q4]) rfl ?_
          exact ⟨by rw [HNX.out]; rfl, HCE.out⟩
        · have h1 : ((Wt).setCell ⟨b8, 1, none⟩ (.int .i64 yd)).heap[b8]? = some (.cells #[.int .i64 mn, .int .i64 yd, .int .i64 b, .int .i64 c, .int .i64 d] 27 (0, 0)) := set_blk _ HT3.out
          have h2 : (((Wt).setCell ⟨b8, 1, none⟩ (.int .i64 yd)).setCell ⟨b8, 2, none⟩ (.int .i64 a)).heap[b8]? = some (.cells #[.int .i64 mn, .int .i64 yd, .int .i64 a, .int .i64 c, .int .i64 d] 27 (0, 0)) := set_blk _ h1
          have h3 : ((((Wt).setCell ⟨b8, 1, none⟩ (.int .i64 yd)).setCell ⟨b8, 2, none⟩ (.int .i64 a)).setCell ⟨b8, 3, none⟩ (.int .i64 b)).heap[b8]? = some (.cells #[.int .i64 mn, .int .i64 yd, .int .i64 a, .int .i64 b, .int .i64 d] 27 (0, 0)) := set_blk _ h2
          have h4 : (((((Wt).setCell ⟨b8, 1, none⟩ (.int .i64 yd)).setCell ⟨b8, 2, none⟩ (.int .i64 a)).setCell ⟨b8, 3, none⟩ (.int .i64 b)).setCell ⟨b8, 4, none⟩ (.int .i64 c)).heap[b8]? = some (.cells #[.int .i64 mn, .int .i64 yd, .int .i64 a, .int .i64 b, .int .i64 c] 27 (0, 0)) := set_blk _ h3
          obtain ⟨_, x1, _⟩ := cells5 HT3.out
          obtain ⟨_, _, x2, _⟩ := cells5 h1
          obtain ⟨_, _, _, x3, _⟩ := cells5 h2
          obtain ⟨_, _, _, _, x4⟩ := cells5 h3
          obtain ⟨_, z1, _⟩ := cells5f HT3.out
          obtain ⟨_, _, z2, _⟩ := cells5f h1
          obtain ⟨_, _, _, z3, _⟩ := cells5f h2
          obtain ⟨_, _, _, _, z4⟩ := cells5f h3
          have cT : Chg (fun q => q = b8) Wt (((((Wt).setCell ⟨b8, 1, none⟩ (.int .i64 yd)).setCell ⟨b8, 2, none⟩ (.int .i64 a)).setCell ⟨b8, 3, none⟩ (.int .i64 b)).setCell ⟨b8, 4, none⟩ (.int .i64 c)) := ((((Chg.refl (fun q => q = b8) Wt).setCell (p := ⟨b8, 1, none⟩) (.inl rfl) _).setCell (p := ⟨b8, 2, none⟩) (.inl rfl) _).setCell (p := ⟨b8, 3, none⟩) (.inl rfl) _).setCell (p := ⟨b8, 4, none⟩) (.inl rfl) _
          have HF2 : Hid ((((((Wt).setCell ⟨b8, 1, none⟩ (.int .i64 yd)).setCell ⟨b8, 2, none⟩ (.int .i64 a)).setCell ⟨b8, 3, none⟩ (.int .i64 b)).setCell ⟨b8, 4, none⟩ (.int .i64 c)).heap[w.heap.size]? = some (.cells #[.int .i64 n, .int .i64 a, .int .i64 b, .int .i64 c, .int .i64 d] 27 (0, 0)) ∧ (((((Wt).setCell ⟨b8, 1, none⟩ (.int .i64 yd)).setCell ⟨b8, 2, none⟩ (.int .i64 a)).setCell ⟨b8, 3, none⟩ (.int .i64 b)).setCell ⟨b8, 4, none⟩ (.int .i64 c)).heap[w.heap.size + 1]? = some (.cells #[.int .i64 2, .int .u8 yb, .int .i64 yl, .int .i64 yd] 34 (0, 0)) ∧ (((((Wt).setCell ⟨b8, 1, none⟩ (.int .i64 yd)).setCell ⟨b8, 2, none⟩ (.int .i64 a)).setCell ⟨b8, 3, none⟩ (.int .i64 b)).setCell ⟨b8, 4, none⟩ (.int .i64 c)).heap[w.heap.size + 1 + 1]? = some (.cells #[.int .i64 0, .int .i64 0, .int .i64 0, .int .i64 0, .int .i64 0] 27 (0, 0)) ∧ (((((Wt).setCell ⟨b8, 1, none⟩ (.int .i64 yd)).setCell ⟨b8, 2, none⟩ (.int .i64 a)).setCell ⟨b8, 3, none⟩ (.int .i64 b)).setCell ⟨b8, 4, none⟩ (.int .i64 c)).heap[b8]? = some (.cells #[.int .i64 mn, .int .i64 yd, .int .i64 a, .int .i64 b, .int .i64 c] 27 (0, 0)) ∧ Chg (fun _ => False) w (((((Wt).setCell ⟨b8, 1, none⟩ (.int .i64 yd)).setCell ⟨b8, 2, none⟩ (.int .i64 a)).setCell ⟨b8, 3, none⟩ (.int .i64 b)).setCell ⟨b8, 4, none⟩ (.int .i64 c))) := ⟨blk_keep HFT.out.1 cT (by omega), blk_keep HFT.out.2.1 cT (by omega), blk_keep HFT.out.2.2.1 cT (by omega), h4, HFT.out.2.2.2.2.trans cT (fun z e => .inr (by omega))⟩
          have yk := (cells4y HF2.out.2.1).1
          clear h1 h2 h3 h4 cT HT3 HFT
          go_upto_region 10 with fail
          generalize ((((Wt).setCell ⟨b8, 1, none⟩ (.int .i64 yd)).setCell ⟨b8, 2, none⟩ (.int .i64 a)).setCell ⟨b8, 3, none⟩ (.int .i64 b)).setCell ⟨b8, 4, none⟩ (.int .i64 c) = We at *
          obtain ⟨_, _, hz, ht, hcc⟩ := HF2.out
          obtain ⟨t0, t1, t2, t3, t4⟩ := cells5 ht
          obtain ⟨⟨p0, f0⟩, ⟨p1, f1⟩, ⟨p2, f2⟩, ⟨p3, f3⟩, ⟨p4, f4⟩, hblk, hchg⟩ := put5_of hz (.int .i64 mn) (.int .i64 yd) (.int .i64 a) (.int .i64 b) (.int .i64 c)
          have HE : Hid _ := cells5 hblk
          have HCE : Hid (Chg (fun _ => False) w _) := hcc.trans hchg (fun z e => .inr (by omega))
          clear hz ht hcc hblk hchg
          go_wp2
          obtain ⟨q0, q1, q2, q3, q4⟩ := HE.out
          refine bodyPost_ret (v := .tuple #[.agg #[.int .i64 mn, .int .i64 yd, .int .i64 a, .int .i64 b, .int .i64 c], .int .i64 0]) (by simp [results, Tryd.results8, go_sem, q0, q1, q2, q3, q4]) rfl ?_
          exact ⟨by rw [HNX.out]; rfl, HCE.out⟩
        · have hyd : yd = 0 ∨ yd = 1 ∨ yd = 2 ∨ yd = 3 := by omega
          clear hd1 hd2
          rcases hyd with rfl | rfl | rfl | rfl
          · have h1 : ((Wt).setCell ⟨b8, 1, none⟩ (.int .i64 a)).heap[b8]? = some (.cells #[.int .i64 mn, .int .i64 a, .int .i64 b, .int .i64 c, .int .i64 d] 27 (0, 0)) := set_blk _ HT3.out
            obtain ⟨_, x1, _⟩ := cells5 HT3.out
            obtain ⟨_, z1, _⟩ := cells5f HT3.out
            have cT : Chg (fun q => q = b8) Wt ((Wt).setCell ⟨b8, 1, none⟩ (.int .i64 a)) := (Chg.refl (fun q => q = b8) Wt).setCell (p := ⟨b8, 1, none⟩) (.inl rfl) _
            have HF2 : Hid (((Wt).setCell ⟨b8, 1, none⟩ (.int .i64 a)).heap[w.heap.size]? = some (.cells #[.int .i64 n, .int .i64 a, .int .i64 b, .int .i64 c, .int .i64 d] 27 (0, 0)) ∧ ((Wt).setCell ⟨b8, 1, none⟩ (.int .i64 a)).heap[w.heap.size + 1]? = some (.cells #[.int .i64 3, .int .u8 yb, .int .i64 yl, .int .i64 0] 34 (0, 0)) ∧ ((Wt).setCell ⟨b8, 1, none⟩ (.int .i64 a)).heap[w.heap.size + 1 + 1]? = some (.cells #[.int .i64 0, .int .i64 0, .int .i64 0, .int .i64 0, .int .i64 0] 27 (0, 0)) ∧ ((Wt).setCell ⟨b8, 1, none⟩ (.int .i64 a)).heap[b8]? = some (.cells #[.int .i64 mn, .int .i64 a, .int .i64 b, .int .i64 c, .int .i64 d] 27 (0, 0)) ∧ Chg (fun _ => False) w ((Wt).setCell ⟨b8, 1, none⟩ (.int .i64 a))) := ⟨blk_keep HFT.out.1 cT (by omega), blk_keep HFT.out.2.1 cT (by omega), blk_keep HFT.out.2.2.1 cT (by omega), h1, HFT.out.2.2.2.2.trans cT (fun z e => .inr (by omega))⟩
            clear h1 cT HT3 HFT
            go_wp2_with fail
            generalize (Wt).setCell ⟨b8, 1, none⟩ (.int .i64 a) = We at *
            clear y0 y1 y2 y3 s0 s1 s2 s3 s4
            go_loopw [9, 10] (fun v1 v2 wr => (v1 = .int .i64 0 ∧ v2 = .int .i64 0 ∧ Hid (wr.heap[w.heap.size]? = some (.cells #[.int .i64 n, .int .i64 a, .int .i64 b, .int .i64 c, .int .i64 d] 27 (0, 0)) ∧ wr.heap[w.heap.size + 1]? = some (.cells #[.int .i64 3, .int .u8 yb, .int .i64 yl, .int .i64 0] 34 (0, 0)) ∧ wr.heap[w.heap.size + 1 + 1]? = some (.cells #[.int .i64 0, .int .i64 0, .int .i64 0, .int .i64 0, .int .i64 0] 27 (0, 0)) ∧ wr.heap[b8]? = some (.cells #[.int .i64 mn, .int .i64 a, .int .i64 b, .int .i64 c, .int .i64 d] 27 (0, 0)) ∧ Chg (fun _ => False) w wr)) ∨ (v1 = .int .i64 0 ∧ v2 = .int .i64 1 ∧ Hid (wr.heap[w.heap.size]? = some (.cells #[.int .i64 n, .int .i64 a, .int .i64 b, .int .i64 c, .int .i64 d] 27 (0, 0)) ∧ wr.heap[w.heap.size + 1]? = some (.cells #[.int .i64 3, .int .u8 yb, .int .i64 yl, .int .i64 0] 34 (0, 0)) ∧ wr.heap[w.heap.size + 1 + 1]? = some (.cells #[.int .i64 0, .int .i64 0, .int .i64 0, .int .i64 0, .int .i64 0] 27 (0, 0)) ∧ wr.heap[b8]? = some (.cells #[.int .i64 mn, .int .i64 a, .int .i64 b, .int .i64 c, .int .i64 d] 27 (0, 0)) ∧ Chg (fun _ => False) w wr)) ∨ (v1 = .int .i64 1 ∧ v2 = .int .i64 2 ∧ Hid (wr.heap[w.heap.size]? = some (.cells #[.int .i64 n, .int .i64 a, .int .i64 b, .int .i64 c, .int .i64 d] 27 (0, 0)) ∧ wr.heap[w.heap.size + 1]? = some (.cells #[.int .i64 3, .int .u8 yb, .int .i64 yl, .int .i64 0] 34 (0, 0)) ∧ wr.heap[w.heap.size + 1 + 1]? = some (.cells #[.int .i64 0, .int .i64 0, .int .i64 0, .int .i64 0, .int .i64 0] 27 (0, 0)) ∧ wr.heap[b8]? = some (.cells #[.int .i64 mn, .int .i64 a, .int .i64 b, .int .i64 c, .int .i64 d] 27 (0, 0)) ∧ Chg (fun _ => False) w wr)) ∨ (v1 = .int .i64 2 ∧ v2 = .int .i64 3 ∧ Hid (wr.heap[w.heap.size]? = some (.cells #[.int .i64 n, .int .i64 a, .int .i64 b, .int .i64 c, .int .i64 d] 27 (0, 0)) ∧ wr.heap[w.heap.size + 1]? = some (.cells #[.int .i64 3, .int .u8 yb, .int .i64 yl, .int .i64 0] 34 (0, 0)) ∧ wr.heap[w.heap.size + 1 + 1]? = some (.cells #[.int .i64 0, .int .i64 0, .int .i64 0, .int .i64 0, .int .i64 0] 27 (0, 0)) ∧ wr.heap[b8]? = some (.cells #[.int .i64 mn, .int .i64 a, .int .i64 b, .int .i64 c, .int .i64 d] 27 (0, 0)) ∧ Chg (fun _ => False) w wr)) ∨ (v1 = .int .i64 3 ∧ v2 = .int .i64 4 ∧ Hid (wr.heap[w.heap.size]? = some (.cells #[.int .i64 n, .int .i64 a, .int .i64 b, .int .i64 c, .int .i64 d] 27 (0, 0)) ∧ wr.heap[w.heap.size + 1]? = some (.cells #[.int .i64 3, .int .u8 yb, .int .i64 yl, .int .i64 0] 34 (0, 0)) ∧ wr.heap[w.heap.size + 1 + 1]? = some (.cells #[.int .i64 0, .int .i64 0, .int .i64 0, .int .i64 0, .int .i64 0] 27 (0, 0)) ∧ wr.heap[b8]? = some (.cells #[.int .i64 mn, .int .i64 a, .int .i64 b, .int .i64 c, .int .i64 d] 27 (0, 0)) ∧ Chg (fun _ => False) w wr))) (fun _ v2 _ => 4 - (intOf v2).toNat)
            case atStart => exact .inl ⟨rfl, rfl, HF2.out⟩
            case round =>
              clear HF2
              rcases hrel with ⟨rfl, rfl, HF⟩ | ⟨rfl, rfl, HF⟩ | ⟨rfl, rfl, HF⟩ | ⟨rfl, rfl, HF⟩ | ⟨rfl, rfl, HF⟩
              · obtain ⟨y0, y1, y2, y3⟩ := cells4y HF.out.2.1
                go_wp2_with fail
                go_roundw
                case rel => exact .inr (.inl ⟨rfl, rfl, HF.out⟩)
                case measure => simp [intOf]
              · obtain ⟨y0, y1, y2, y3⟩ := cells4y HF.out.2.1
                obtain ⟨s0, s1, s2, s3, s4⟩ := cells5 HF.out.1
                obtain ⟨x0, x1, x2, x3, x4⟩ := cells5 HF.out.2.2.2.1
                obtain ⟨z0, z1, z2, z3, z4⟩ := cells5f HF.out.2.2.2.1
                have h1 : ((wr).setCell ⟨b8, 2, none⟩ (.int .i64 b)).heap[b8]? = some (.cells #[.int .i64 mn, .int .i64 a, .int .i64 b, .int .i64 c, .int .i64 d] 27 (0, 0)) := set_blk _ HF.out.2.2.2.1
                have cT : Chg (fun q => q = b8) wr ((wr).setCell ⟨b8, 2, none⟩ (.int .i64 b)) := (Chg.refl (fun q => q = b8) wr).setCell (p := ⟨b8, 2, none⟩) (.inl rfl) _
                have HF3 : Hid (((wr).setCell ⟨b8, 2, none⟩ (.int .i64 b)).heap[w.heap.size]? = some (.cells #[.int .i64 n, .int .i64 a, .int .i64 b, .int .i64 c, .int .i64 d] 27 (0, 0)) ∧ ((wr).setCell ⟨b8, 2, none⟩ (.int .i64 b)).heap[w.heap.size + 1]? = some (.cells #[.int .i64 3, .int .u8 yb, .int .i64 yl, .int .i64 0] 34 (0, 0)) ∧ ((wr).setCell ⟨b8, 2, none⟩ (.int .i64 b)).heap[w.heap.size + 1 + 1]? = some (.cells #[.int .i64 0, .int .i64 0, .int .i64 0, .int .i64 0, .int .i64 0] 27 (0, 0)) ∧ ((wr).setCell ⟨b8, 2, none⟩ (.int .i64 b)).heap[b8]? = some (.cells #[.int .i64 mn, .int .i64 a, .int .i64 b, .int .i64 c, .int .i64 d] 27 (0, 0)) ∧ Chg (fun _ => False) w ((wr).setCell ⟨b8, 2, none⟩ (.int .i64 b))) := ⟨blk_keep HF.out.1 cT (by omega), blk_keep HF.out.2.1 cT (by omega), blk_keep HF.out.2.2.1 cT (by omega), h1, HF.out.2.2.2.2.trans cT (fun z e => .inr (by omega))⟩
                clear h1 cT HF
                go_wp2_with fail
                go_roundw
                case rel => exact .inr (.inr (.inl ⟨rfl, rfl, HF3.out⟩))
                case measure => simp [intOf]
              · obtain ⟨y0, y1, y2, y3⟩ := cells4y HF.out.2.1
                obtain ⟨s0, s1, s2, s3, s4⟩ := cells5 HF.out.1
                obtain ⟨x0, x1, x2, x3, x4⟩ := cells5 HF.out.2.2.2.1
                obtain ⟨z0, z1, z2, z3, z4⟩ := cells5f HF.out.2.2.2.1
                have h1 : ((wr).setCell ⟨b8, 3, none⟩ (.int .i64 c)).heap[b8]? = some (.cells #[.int .i64 mn, .int .i64 a, .int .i64 b, .int .i64 c, .int .i64 d] 27 (0, 0)) := set_blk _ HF.out.2.2.2.1
                have cT : Chg (fun q => q = b8) wr ((wr).setCell ⟨b8, 3, none⟩ (.int .i64 c)) := (Chg.refl (fun q => q = b8) wr).setCell (p := ⟨b8, 3, none⟩) (.inl rfl) _
                have HF3 : Hid (((wr).setCell ⟨b8, 3, none⟩ (.int .i64 c)).heap[w.heap.size]? = some (.cells #[.int .i64 n, .int .i64 a, .int .i64 b, .int .i64 c, .int .i64 d] 27 (0, 0)) ∧ ((wr).setCell ⟨b8, 3, none⟩ (.int .i64 c)).heap[w.heap.size + 1]? = some (.cells #[.int .i64 3, .int .u8 yb, .int .i64 yl, .int .i64 0] 34 (0, 0)) ∧ ((wr).setCell ⟨b8, 3, none⟩ (.int .i64 c)).heap[w.heap.size + 1 + 1]? = some (.cells #[.int .i64 0, .int .i64 0, .int .i64 0, .int .i64 0, .int .i64 0] 27 (0, 0)) ∧ ((wr).setCell ⟨b8, 3, none⟩ (.int .i64 c)).heap[b8]? = some (.cells #[.int .i64 mn, .int .i64 a, .int .i64 b, .int .i64 c, .int .i64 d] 27 (0, 0)) ∧ Chg (fun _ => False) w ((wr).setCell ⟨b8, 3, none⟩ (.int .i64 c))) := ⟨blk_keep HF.out.1 cT (by omega), blk_keep HF.out.2.1 cT (by omega), blk_keep HF.out.2.2.1 cT (by omega), h1, HF.out.2.2.2.2.trans cT (fun z e => .inr (by omega))⟩
                clear h1 cT HF
                go_wp2_with fail
                go_roundw
                case rel => exact .inr (.inr (.inr (.inl ⟨rfl, rfl, HF3.out⟩)))
                case measure => simp [intOf]
              · obtain ⟨y0, y1, y2, y3⟩ := cells4y HF.out.2.1
                obtain ⟨s0, s1, s2, s3, s4⟩ := cells5 HF.out.1
                obtain ⟨x0, x1, x2, x3, x4⟩ := cells5 HF.out.2.2.2.1
                obtain ⟨z0, z1, z2, z3, z4⟩ := cells5f HF.out.2.2.2.1
                have h1 : ((wr).setCell ⟨b8, 4, none⟩ (.int .i64 d)).heap[b8]? = some (.cells #[.int .i64 mn, .int .i64 a, .int .i64 b, .int .i64 c, .int .i64 d] 27 (0, 0)) := set_blk _ HF.out.2.2.2.1
                have cT : Chg (fun q => q = b8) wr ((wr).setCell ⟨b8, 4, none⟩ (.int .i64 d)) := (Chg.refl (fun q => q = b8) wr).setCell (p := ⟨b8, 4, none⟩) (.inl rfl) _
                have HF3 : Hid (((wr).setCell ⟨b8, 4, none⟩ (.int .i64 d)).heap[w.heap.size]? = some (.cells #[.int .i64 n, .int .i64 a, .int .i64 b, .int .i64 c, .int .i64 d] 27 (0, 0)) ∧ ((wr).setCell ⟨b8, 4, none⟩ (.int .i64 d)).heap[w.heap.size + 1]? = some (.cells #[.int .i64 3, .int .u8 yb, .int .i64 yl, .int .i64 0] 34 (0, 0)) ∧ ((wr).setCell ⟨b8, 4, none⟩ (.int .i64 d)).heap[w.heap.size + 1 + 1]? = some (.cells #[.int .i64 0, .int .i64 0, .int .i64 0, .int .i64 0, .int .i64 0] 27 (0, 0)) ∧ ((wr).setCell ⟨b8, 4, none⟩ (.int .i64 d)).heap[b8]? = some (.cells #[.int .i64 mn, .int .i64 a, .int .i64 b, .int .i64 c, .int .i64 d] 27 (0, 0)) ∧ Chg (fun _ => False) w ((wr).setCell ⟨b8, 4, none⟩ (.int .i64 d))) := ⟨blk_keep HF.out.1 cT (by omega), blk_keep HF.out.2.1 cT (by omega), blk_keep HF.out.2.2.1 cT (by omega), h1, HF.out.2.2.2.2.trans cT (fun z e => .inr (by omega))⟩
                clear h1 cT HF
                go_wp2_with fail
                go_roundw
                case rel => exact .inr (.inr (.inr (.inr (⟨rfl, rfl, HF3.out⟩))))
                case measure => simp [intOf]
              · skip
                obtain ⟨_, _, hz, ht, hcc⟩ := HF.out
                obtain ⟨t0, t1, t2, t3, t4⟩ := cells5 ht
                obtain ⟨⟨p0, f0⟩, ⟨p1, f1⟩, ⟨p2, f2⟩, ⟨p3, f3⟩, ⟨p4, f4⟩, hblk, hchg⟩ := put5_of hz (.int .i64 mn) (.int .i64 a) (.int .i64 b) (.int .i64 c) (.int .i64 d)
                have HE : Hid _ := cells5 hblk
                have HCE : Hid (Chg (fun _ => False) w _) := hcc.trans hchg (fun z e => .inr (by omega))
                clear hz ht hcc hblk hchg
                go_wp2
                obtain ⟨q0, q1, q2, q3, q4⟩ := HE.out
                refine bodyPost_ret (v := .tuple #[.agg #[.int .i64 mn, .int .i64 a, .int .i64 b, .int .i64 c, .int .i64 d], .int .i64 0]) (by simp [results, Tryd.results8, go_sem, q0, q1, q2, q3, q4]) rfl ?_
                exact ⟨by rw [HNX.out]; rfl, HCE.out⟩
          · have h1 : ((Wt).setCell ⟨b8, 1, none⟩ (.int .i64 b)).heap[b8]? = some (.cells #[.int .i64 mn, .int .i64 b, .int .i64 b, .int .i64 c, .int .i64 d] 27 (0, 0)) := set_blk _ HT3.out
            obtain ⟨_, x1, _⟩ := cells5 HT3.out
            obtain ⟨_, z1, _⟩ := cells5f HT3.out
            have cT : Chg (fun q => q = b8) Wt ((Wt).setCell ⟨b8, 1, none⟩ (.int .i64 b)) := (Chg.refl (fun q => q = b8) Wt).setCell (p := ⟨b8, 1, none⟩) (.inl rfl) _
            have HF2 : Hid (((Wt).setCell ⟨b8, 1, none⟩ (.int .i64 b)).heap[w.heap.size]? = some (.cells #[.int .i64 n, .int .i64 a, .int .i64 b, .int .i64 c, .int .i64 d] 27 (0, 0)) ∧ ((Wt).setCell ⟨b8, 1, none⟩ (.int .i64 b)).heap[w.heap.size + 1]? = some (.cells #[.int .i64 3, .int .u8 yb, .int .i64 yl, .int .i64 1] 34 (0, 0)) ∧ ((Wt).setCell ⟨b8, 1, none⟩ (.int .i64 b)).heap[w.heap.size + 1 + 1]? = some (.cells #[.int .i64 0, .int .i64 0, .int .i64 0, .int .i64 0, .int .i64 0] 27 (0, 0)) ∧ ((Wt).setCell ⟨b8, 1, none⟩ (.int .i64 b)).heap[b8]? = some (.cells #[.int .i64 mn, .int .i64 b, .int .i64 b, .int .i64 c, .int .i64 d] 27 (0, 0)) ∧ Chg (fun _ => False) w ((Wt).setCell ⟨b8, 1, none⟩ (.int .i64 b))) := ⟨blk_keep HFT.out.1 cT (by omega), blk_keep HFT.out.2.1 cT (by omega), blk_keep HFT.out.2.2.1 cT (by omega), h1, HFT.out.2.2.2.2.trans cT (fun z e => .inr (by omega))⟩
            clear h1 cT HT3 HFT
            go_wp2_with fail
            generalize (Wt).setCell ⟨b8, 1, none⟩ (.int .i64 b) = We at *
            clear y0 y1 y2 y3 s0 s1 s2 s3 s4
            go_loopw [9, 10] (fun v1 v2 wr => (v1 = .int .i64 0 ∧ v2 = .int .i64 0 ∧ Hid (wr.heap[w.heap.size]? = some (.cells #[.int .i64 n, .int .i64 a, .int .i64 b, .int .i64 c, .int .i64 d] 27 (0, 0)) ∧ wr.heap[w.heap.size + 1]? = some (.cells #[.int .i64 3, .int .u8 yb, .int .i64 yl, .int .i64 1] 34 (0, 0)) ∧ wr.heap[w.heap.size + 1 + 1]? = some (.cells #[.int .i64 0, .int .i64 0, .int .i64 0, .int .i64 0, .int .i64 0] 27 (0, 0)) ∧ wr.heap[b8]? = some (.cells #[.int .i64 mn, .int .i64 b, .int .i64 b, .int .i64 c, .int .i64 d] 27 (0, 0)) ∧ Chg (fun _ => False) w wr)) ∨ (v1 = .int .i64 1 ∧ v2 = .int .i64 1 ∧ Hid (wr.heap[w.heap.size]? = some (.cells #[.int .i64 n, .int .i64 a, .int .i64 b, .int .i64 c, .int .i64 d] 27 (0, 0)) ∧ wr.heap[w.heap.size + 1]? = some (.cells #[.int .i64 3, .int .u8 yb, .int .i64 yl, .int .i64 1] 34 (0, 0)) ∧ wr.heap[w.heap.size + 1 + 1]? = some (.cells #[.int .i64 0, .int .i64 0, .int .i64 0, .int .i64 0, .int .i64 0] 27 (0, 0)) ∧ wr.heap[b8]? = some (.cells #[.int .i64 mn, .int .i64 b, .int .i64 a, .int .i64 c, .int .i64 d] 27 (0, 0)) ∧ Chg (fun _ => False) w wr)) ∨ (v1 = .int .i64 1 ∧ v2 = .int .i64 2 ∧ Hid (wr.heap[w.heap.size]? = some (.cells #[.int .i64 n, .int .i64 a, .int .i64 b, .int .i64 c, .int .i64 d] 27 (0, 0)) ∧ wr.heap[w.heap.size + 1]? = some (.cells #[.int .i64 3, .int .u8 yb, .int .i64 yl, .int .i64 1] 34 (0, 0)) ∧ wr.heap[w.heap.size + 1 + 1]? = some (.cells #[.int .i64 0, .int .i64 0, .int .i64 0, .int .i64 0, .int .i64 0] 27 (0, 0)) ∧ wr.heap[b8]? = some (.cells #[.int .i64 mn, .int .i64 b, .int .i64 a, .int .i64 c, .int .i64 d] 27 (0, 0)) ∧ Chg (fun _ => False) w wr)) ∨ (v1 = .int .i64 2 ∧ v2 = .int .i64 3 ∧ Hid (wr.heap[w.heap.size]? = some (.cells #[.int .i64 n, .int .i64 a, .int .i64 b, .int .i64 c, .int .i64 d] 27 (0, 0)) ∧ wr.heap[w.heap.size + 1]? = some (.cells #[.int .i64 3, .int .u8 yb, .int .i64 yl, .int .i64 1] 34 (0, 0)) ∧ wr.heap[w.heap.size + 1 + 1]? = some (.cells #[.int .i64 0, .int .i64 0, .int .i64 0, .int .i64 0, .int .i64 0] 27 (0, 0)) ∧ wr.heap[b8]? = some (.cells #[.int .i64 mn, .int .i64 b, .int .i64 a, .int .i64 c, .int .i64 d] 27 (0, 0)) ∧ Chg (fun _ => False) w wr)) ∨ (v1 = .int .i64 3 ∧ v2 = .int .i64 4 ∧ Hid (wr.heap[w.heap.size]? = some (.cells #[.int .i64 n, .int .i64 a, .int .i64 b, .int .i64 c, .int .i64 d] 27 (0, 0)) ∧ wr.heap[w.heap.size + 1]? = some (.cells #[.int .i64 3, .int .u8 yb, .int .i64 yl, .int .i64 1] 34 (0, 0)) ∧ wr.heap[w.heap.size + 1 + 1]? = some (.cells #[.int .i64 0, .int .i64 0, .int .i64 0, .int .i64 0, .int .i64 0] 27 (0, 0)) ∧ wr.heap[b8]? = some (.cells #[.int .i64 mn, .int .i64 b, .int .i64 a, .int .i64 c, .int .i64 d] 27 (0, 0)) ∧ Chg (fun _ => False) w wr))) (fun _ v2 _ => 4 - (intOf v2).toNat)
            case atStart => exact .inl ⟨rfl, rfl, HF2.out⟩
            case round =>
              clear HF2
              rcases hrel with ⟨rfl, rfl, HF⟩ | ⟨rfl, rfl, HF⟩ | ⟨rfl, rfl, HF⟩ | ⟨rfl, rfl, HF⟩ | ⟨rfl, rfl, HF⟩
              · obtain ⟨y0, y1, y2, y3⟩ := cells4y HF.out.2.1
                obtain ⟨s0, s1, s2, s3, s4⟩ := cells5 HF.out.1
                obtain ⟨x0, x1, x2, x3, x4⟩ := cells5 HF.out.2.2.2.1
                obtain ⟨z0, z1, z2, z3, z4⟩ := cells5f HF.out.2.2.2.1
                have h1 : ((wr).setCell ⟨b8, 2, none⟩ (.int .i64 a)).heap[b8]? = some (.cells #[.int .i64 mn, .int .i64 b, .int .i64 a, .int .i64 c, .int .i64 d] 27 (0, 0)) := set_blk _ HF.out.2.2.2.1
                have cT : Chg (fun q => q = b8) wr ((wr).setCell ⟨b8, 2, none⟩ (.int .i64 a)) := (Chg.refl (fun q => q = b8) wr).setCell (p := ⟨b8, 2, none⟩) (.inl rfl) _
                have HF3 : Hid (((wr).setCell ⟨b8, 2, none⟩ (.int .i64 a)).heap[w.heap.size]? = some (.cells #[.int .i64 n, .int .i64 a, .int .i64 b, .int .i64 c, .int .i64 d] 27 (0, 0)) ∧ ((wr).setCell ⟨b8, 2, none⟩ (.int .i64 a)).heap[w.heap.size + 1]? = some (.cells #[.int .i64 3, .int .u8 yb, .int .i64 yl, .int .i64 1] 34 (0, 0)) ∧ ((wr).setCell ⟨b8, 2, none⟩ (.int .i64 a)).heap[w.heap.size + 1 + 1]? = some (.cells #[.int .i64 0, .int .i64 0, .int .i64 0, .int .i64 0, .int .i64 0] 27 (0, 0)) ∧ ((wr).setCell ⟨b8, 2, none⟩ (.int .i64 a)).heap[b8]? = some (.cells #[.int .i64 mn, .int .i64 b, .int .i64 a, .int .i64 c, .int .i64 d] 27 (0, 0)) ∧ Chg (fun _ => False) w ((wr).setCell ⟨b8, 2, none⟩ (.int .i64 a))) := ⟨blk_keep HF.out.1 cT (by omega), blk_keep HF.out.2.1 cT (by omega), blk_keep HF.out.2.2.1 cT (by omega), h1, HF.out.2.2.2.2.trans cT (fun z e => .inr (by omega))⟩
                clear h1 cT HF
                go_wp2_with fail
                go_roundw
                case rel => exact .inr (.inl ⟨rfl, rfl, HF3.out⟩)
                case measure => simp [intOf]
              · obtain ⟨y0, y1, y2, y3⟩ := cells4y HF.out.2.1
                go_wp2_with fail
                go_roundw
                case rel => exact .inr (.inr (.inl ⟨rfl, rfl, HF.out⟩))
                case measure => simp [intOf]
              · obtain ⟨y0, y1, y2, y3⟩ := cells4y HF.out.2.1
                obtain ⟨s0, s1, s2, s3, s4⟩ := cells5 HF.out.1
                obtain ⟨x0, x1, x2, x3, x4⟩ := cells5 HF.out.2.2.2.1
                obtain ⟨z0, z1, z2, z3, z4⟩ := cells5f HF.out.2.2.2.1
                have h1 : ((wr).setCell ⟨b8, 3, none⟩ (.int .i64 c)).heap[b8]? = some (.cells #[.int .i64 mn, .int .i64 b, .int .i64 a, .int .i64 c, .int .i64 d] 27 (0, 0)) := set_blk _ HF.out.2.2.2.1
                have cT : Chg (fun q => q = b8) wr ((wr).setCell ⟨b8, 3, none⟩ (.int .i64 c)) := (Chg.refl (fun q => q = b8) wr).setCell (p := ⟨b8, 3, none⟩) (.inl rfl) _
                have HF3 : Hid (((wr).setCell ⟨b8, 3, none⟩ (.int .i64 c)).heap[w.heap.size]? = some (.cells #[.int .i64 n, .int .i64 a, .int .i64 b, .int .i64 c, .int .i64 d] 27 (0, 0)) ∧ ((wr).setCell ⟨b8, 3, none⟩ (.int .i64 c)).heap[w.heap.size + 1]? = some (.cells #[.int .i64 3, .int .u8 yb, .int .i64 yl, .int .i64 1] 34 (0, 0)) ∧ ((wr).setCell ⟨b8, 3, none⟩ (.int .i64 c)).heap[w.heap.size + 1 + 1]? = some (.cells #[.int .i64 0, .int .i64 0, .int .i64 0, .int .i64 0, .int .i64 0] 27 (0, 0)) ∧ ((wr).setCell ⟨b8, 3, none⟩ (.int .i64 c)).heap[b8]? = some (.cells #[.int .i64 mn, .int .i64 b, .int .i64 a, .int .i64 c, .int .i64 d] 27 (0, 0)) ∧ Chg (fun _ => False) w ((wr).setCell ⟨b8, 3, none⟩ (.int .i64 c))) := ⟨blk_keep HF.out.1 cT (by omega), blk_keep HF.out.2.1 cT (by omega), blk_keep HF.out.2.2.1 cT (by omega), h1, HF.out.2.2.2.2.trans cT (fun z e => .inr (by omega))⟩
                clear h1 cT HF
                go_wp2_with fail
                go_roundw
                case rel => exact .inr (.inr (.inr (.inl ⟨rfl, rfl, HF3.out⟩)))
                case measure => simp [intOf]
              · obtain ⟨y0, y1, y2, y3⟩ := cells4y HF.out.2.1
                obtain ⟨s0, s1, s2, s3, s4⟩ := cells5 HF.out.1
                obtain ⟨x0, x1, x2, x3, x4⟩ := cells5 HF.out.2.2.2.1
                obtain ⟨z0, z1, z2, z3, z4⟩ := cells5f HF.out.2.2.2.1
                have h1 : ((wr).setCell ⟨b8, 4, none⟩ (.int .i64 d)).heap[b8]? = some (.cells #[.int .i64 mn, .int .i64 b, .int .i64 a, .int .i64 c, .int .i64 d] 27 (0, 0)) := set_blk _ HF.out.2.2.2.1
                have cT : Chg (fun q => q = b8) wr ((wr).setCell ⟨b8, 4, none⟩ (.int .i64 d)) := (Chg.refl (fun q => q = b8) wr).setCell (p := ⟨b8, 4, none⟩) (.inl rfl) _
                have HF3 : Hid (((wr).setCell ⟨b8, 4, none⟩ (.int .i64 d)).heap[w.heap.size]? = some (.cells #[.int .i64 n, .int .i64 a, .int .i64 b, .int .i64 c, .int .i64 d] 27 (0, 0)) ∧ ((wr).setCell ⟨b8, 4, none⟩ (.int .i64 d)).heap[w.heap.size + 1]? = some (.cells #[.int .i64 3, .int .u8 yb, .int .i64 yl, .int .i64 1] 34 (0, 0)) ∧ ((wr).setCell ⟨b8, 4, none⟩ (.int .i64 d)).heap[w.heap.size + 1 + 1]? = some (.cells #[.int .i64 0, .int .i64 0, .int .i64 0, .int .i64 0, .int .i64 0] 27 (0, 0)) ∧ ((wr).setCell ⟨b8, 4, none⟩ (.int .i64 d)).heap[b8]? = some (.cells #[.int .i64 mn, .int .i64 b, .int .i64 a, .int .i64 c, .int .i64 d] 27 (0, 0)) ∧ Chg (fun _ => False) w ((wr).setCell ⟨b8, 4, none⟩ (.int .i64 d))) := ⟨blk_keep HF.out.1 cT (by omega), blk_keep HF.out.2.1 cT (by omega), blk_keep HF.out.2.2.1 cT (by omega), h1, HF.out.2.2.2.2.trans cT (fun z e => .inr (by omega))⟩
                clear h1 cT HF
                go_wp2_with fail
                go_roundw
                case rel => exact .inr (.inr (.inr (.inr (⟨rfl, rfl, HF3.out⟩))))
                case measure => simp [intOf]
              · skip
                obtain ⟨_, _, hz, ht, hcc⟩ := HF.out
                obtain ⟨t0, t1, t2, t3, t4⟩ := cells5 ht
                obtain ⟨⟨p0, f0⟩, ⟨p1, f1⟩, ⟨p2, f2⟩, ⟨p3, f3⟩, ⟨p4, f4⟩, hblk, hchg⟩ := put5_of hz (.int .i64 mn) (.int .i64 b) (.int .i64 a) (.int .i64 c) (.int .i64 d)
                have HE : Hid _ := cells5 hblk
                have HCE : Hid (Chg (fun _ => False) w _) := hcc.trans hchg (fun z e => .inr (by omega))
                clear hz ht hcc hblk hchg
                go_wp2
                obtain ⟨q0, q1, q2, q3, q4⟩ := HE.out
                refine bodyPost_ret (v := .tuple #[.agg #[.int .i64 mn, .int .i64 b, .int .i64 a, .int .i64 c, .int .i64 d], .int .i64 0]) (by simp [results, Tryd.results8, go_sem, q0, q1, q2, q3, q4]) rfl ?_
                exact ⟨by rw [HNX.out]; rfl, HCE.out⟩
          · have h1 : ((Wt).setCell ⟨b8, 1, none⟩ (.int .i64 c)).heap[b8]? = some (.cells #[.int .i64 mn, .int .i64 c, .int .i64 b, .int .i64 c, .int .i64 d] 27 (0, 0)) := set_blk _ HT3.out
            obtain ⟨_, x1, _⟩ := cells5 HT3.out
            obtain ⟨_, z1, _⟩ := cells5f HT3.out
            have cT : Chg (fun q => q = b8) Wt ((Wt).setCell ⟨b8, 1, none⟩ (.int .i64 c)) := (Chg.refl (fun q => q = b8) Wt).setCell (p := ⟨b8, 1, none⟩) (.inl rfl) _
            have HF2 : Hid (((Wt).setCell ⟨b8, 1, none⟩ (.int .i64 c)).heap[w.heap.size]? = some (.cells #[.int .i64 n, .int .i64 a, .int .i64 b, .int .i64 c, .int .i64 d] 27 (0, 0)) ∧ ((Wt).setCell ⟨b8, 1, none⟩ (.int .i64 c)).heap[w.heap.size + 1]? = some (.cells #[.int .i64 3, .int .u8 yb, .int .i64 yl, .int .i64 2] 34 (0, 0)) ∧ ((Wt).setCell ⟨b8, 1, none⟩ (.int .i64 c)).heap[w.heap.size + 1 + 1]? = some (.cells #[.int .i64 0, .int .i64 0, .int .i64 0, .int .i64 0, .int .i64 0] 27 (0, 0)) ∧ ((Wt).setCell ⟨b8, 1, none⟩ (.int .i64 c)).heap[b8]? = some (.cells #[.int .i64 mn, .int .i64 c, .int .i64 b, .int .i64 c, .int .i64 d] 27 (0, 0)) ∧ Chg (fun _ => False) w ((Wt).setCell ⟨b8, 1, none⟩ (.int .i64 c))) := ⟨blk_keep HFT.out.1 cT (by omega), blk_keep HFT.out.2.1 cT (by omega), blk_keep HFT.out.2.2.1 cT (by omega), h1, HFT.out.2.2.2.2.trans cT (fun z e => .inr (by omega))⟩
            clear h1 cT HT3 HFT
            go_wp2_with fail
            generalize (Wt).setCell ⟨b8, 1, none⟩ (.int .i64 c) = We at *
            clear y0 y1 y2 y3 s0 s1 s2 s3 s4
            go_loopw [9, 10] (fun v1 v2 wr => (v1 = .int .i64 0 ∧ v2 = .int .i64 0 ∧ Hid (wr.heap[w.heap.size]? = some (.cells #[.int .i64 n, .int .i64 a, .int .i64 b, .int .i64 c, .int .i64 d] 27 (0, 0)) ∧ wr.heap[w.heap.size + 1]? = some (.cells #[.int .i64 3, .int .u8 yb, .int .i64 yl, .int .i64 2] 34 (0, 0)) ∧ wr.heap[w.heap.size + 1 + 1]? = some (.cells #[.int .i64 0, .int .i64 0, .int .i64 0, .int .i64 0, .int .i64 0] 27 (0, 0)) ∧ wr.heap[b8]? = some (.cells #[.int .i64 mn, .int .i64 c, .int .i64 b, .int .i64 c, .int .i64 d] 27 (0, 0)) ∧ Chg (fun _ => False) w wr)) ∨ (v1 = .int .i64 1 ∧ v2 = .int .i64 1 ∧ Hid (wr.heap[w.heap.size]? = some (.cells #[.int .i64 n, .int .i64 a, .int .i64 b, .int .i64 c, .int .i64 d] 27 (0, 0)) ∧ wr.heap[w.heap.size + 1]? = some (.cells #[.int .i64 3, .int .u8 yb, .int .i64 yl, .int .i64 2] 34 (0, 0)) ∧ wr.heap[w.heap.size + 1 + 1]? = some (.cells #[.int .i64 0, .int .i64 0, .int .i64 0, .int .i64 0, .int .i64 0] 27 (0, 0)) ∧ wr.heap[b8]? = some (.cells #[.int .i64 mn, .int .i64 c, .int .i64 a, .int .i64 c, .int .i64 d] 27 (0, 0)) ∧ Chg (fun _ => False) w wr)) ∨ (v1 = .int .i64 2 ∧ v2 = .int .i64 2 ∧ Hid (wr.heap[w.heap.size]? = some (.cells #[.int .i64 n, .int .i64 a, .int .i64 b, .int .i64 c, .int .i64 d] 27 (0, 0)) ∧ wr.heap[w.heap.size + 1]? = some (.cells #[.int .i64 3, .int .u8 yb, .int .i64 yl, .int .i64 2] 34 (0, 0)) ∧ wr.heap[w.heap.size + 1 + 1]? = some (.cells #[.int .i64 0, .int .i64 0, .int .i64 0, .int .i64 0, .int .i64 0] 27 (0, 0)) ∧ wr.heap[b8]? = some (.cells #[.int .i64 mn, .int .i64 c, .int .i64 a, .int .i64 b, .int .i64 d] 27 (0, 0)) ∧ Chg (fun _ => False) w wr)) ∨ (v1 = .int .i64 2 ∧ v2 = .int .i64 3 ∧ Hid (wr.heap[w.heap.size]? = some (.cells #[.int .i64 n, .int .i64 a, .int .i64 b, .int .i64 c, .int .i64 d] 27 (0, 0)) ∧ wr.heap[w.heap.size + 1]? = some (.cells #[.int .i64 3, .int .u8 yb, .int .i64 yl, .int .i64 2] 34 (0, 0)) ∧ wr.heap[w.heap.size + 1 + 1]? = some (.cells #[.int .i64 0, .int .i64 0, .int .i64 0, .int .i64 0, .int .i64 0] 27 (0, 0)) ∧ wr.heap[b8]? = some (.cells #[.int .i64 mn, .int .i64 c, .int .i64 a, .int .i64 b, .int .i64 d] 27 (0, 0)) ∧ Chg (fun _ => False) w wr)) ∨ (v1 = .int .i64 3 ∧ v2 = .int .i64 4 ∧ Hid (wr.heap[w.heap.size]? = some (.cells #[.int .i64 n, .int .i64 a, .int .i64 b, .int .i64 c, .int .i64 d] 27 (0, 0)) ∧ wr.heap[w.heap.size + 1]? = some (.cells #[.int .i64 3, .int .u8 yb, .int .i64 yl, .int .i64 2] 34 (0, 0)) ∧ wr.heap[w.heap.size + 1 + 1]? = some (.cells #[.int .i64 0, .int .i64 0, .int .i64 0, .int .i64 0, .int .i64 0] 27 (0, 0)) ∧ wr.heap[b8]? = some (.cells #[.int .i64 mn, .int .i64 c, .int .i64 a, .int .i64 b, .int .i64 d] 27 (0, 0)) ∧ Chg (fun _ => False) w wr))) (fun _ v2 _ => 4 - (intOf v2).toNat)
            case atStart => exact .inl ⟨rfl, rfl, HF2.out⟩
            case round =>
              clear HF2
              rcases hrel with ⟨rfl, rfl, HF⟩ | ⟨rfl, rfl, HF⟩ | ⟨rfl, rfl, HF⟩ | ⟨rfl, rfl, HF⟩ | ⟨rfl, rfl, HF⟩
              · obtain ⟨y0, y1, y2, y3⟩ := cells4y HF.out.2.1
                obtain ⟨s0, s1, s2, s3, s4⟩ := cells5 HF.out.1
                obtain ⟨x0, x1, x2, x3, x4⟩ := cells5 HF.out.2.2.2.1
                obtain ⟨z0, z1, z2, z3, z4⟩ := cells5f HF.out.2.2.2.1
                have h1 : ((wr).setCell ⟨b8, 2, none⟩ (.int .i64 a)).heap[b8]? = some (.cells #[.int .i64 mn, .int .i64 c, .int .i64 a, .int .i64 c, .int .i64 d] 27 (0, 0)) := set_blk _ HF.out.2.2.2.1
                have cT : Chg (fun q => q = b8) wr ((wr).setCell ⟨b8, 2, none⟩ (.int .i64 a)) := (Chg.refl (fun q => q = b8) wr).setCell (p := ⟨b8, 2, none⟩) (.inl rfl) _
                have HF3 : Hid (((wr).setCell ⟨b8, 2, none⟩ (.int .i64 a)).heap[w.heap.size]? = some (.cells #[.int .i64 n, .int .i64 a, .int .i64 b, .int .i64 c, .int .i64 d] 27 (0, 0)) ∧ ((wr).setCell ⟨b8, 2, none⟩ (.int .i64 a)).heap[w.heap.size + 1]? = some (.cells #[.int .i64 3, .int .u8 yb, .int .i64 yl, .int .i64 2] 34 (0, 0)) ∧ ((wr).setCell ⟨b8, 2, none⟩ (.int .i64 a)).heap[w.heap.size + 1 + 1]? = some (.cells #[.int .i64 0, .int .i64 0, .int .i64 0, .int .i64 0, .int .i64 0] 27 (0, 0)) ∧ ((wr).setCell ⟨b8, 2, none⟩ (.int .i64 a)).heap[b8]? = some (.cells #[.int .i64 mn, .int .i64 c, .int .i64 a, .int .i64 c, .int .i64 d] 27 (0, 0)) ∧ Chg (fun _ => False) w ((wr).setCell ⟨b8, 2, none⟩ (.int .i64 a))) := ⟨blk_keep HF.out.1 cT (by omega), blk_keep HF.out.2.1 cT (by omega), blk_keep HF.out.2.2.1 cT (by omega), h1, HF.out.2.2.2.2.trans cT (fun z e => .inr (by omega))⟩
                clear h1 cT HF
                go_wp2_with fail
                go_roundw
                case rel => exact .inr (.inl ⟨rfl, rfl, HF3.out⟩)
                case measure => simp [intOf]
              · obtain ⟨y0, y1, y2, y3⟩ := cells4y HF.out.2.1
                obtain ⟨s0, s1, s2, s3, s4⟩ := cells5 HF.out.1
                obtain ⟨x0, x1, x2, x3, x4⟩ := cells5 HF.out.2.2.2.1
                obtain ⟨z0, z1, z2, z3, z4⟩ := cells5f HF.out.2.2.2.1
                have h1 : ((wr).setCell ⟨b8, 3, none⟩ (.int .i64 b)).heap[b8]? = some (.cells #[.int .i64 mn, .int .i64 c, .int .i64 a, .int .i64 b, .int .i64 d] 27 (0, 0)) := set_blk _ HF.out.2.2.2.1
                have cT : Chg (fun q => q = b8) wr ((wr).setCell ⟨b8, 3, none⟩ (.int .i64 b)) := (Chg.refl (fun q => q = b8) wr).setCell (p := ⟨b8, 3, none⟩) (.inl rfl) _
                have HF3 : Hid (((wr).setCell ⟨b8, 3, none⟩ (.int .i64 b)).heap[w.heap.size]? = some (.cells #[.int .i64 n, .int .i64 a, .int .i64 b, .int .i64 c, .int .i64 d] 27 (0, 0)) ∧ ((wr).setCell ⟨b8, 3, none⟩ (.int .i64 b)).heap[w.heap.size + 1]? = some (.cells #[.int .i64 3, .int .u8 yb, .int .i64 yl, .int .i64 2] 34 (0, 0)) ∧ ((wr).setCell ⟨b8, 3, none⟩ (.int .i64 b)).heap[w.heap.size + 1 + 1]? = some (.cells #[.int .i64 0, .int .i64 0, .int .i64 0, .int .i64 0, .int .i64 0] 27 (0, 0)) ∧ ((wr).setCell ⟨b8, 3, none⟩ (.int .i64 b)).heap[b8]? = some (.cells #[.int .i64 mn, .int .i64 c, .int .i64 a, .int .i64 b, .int .i64 d] 27 (0, 0)) ∧ Chg (fun _ => False) w ((wr).setCell ⟨b8, 3, none⟩ (.int .i64 b))) := ⟨blk_keep HF.out.1 cT (by omega), blk_keep HF.out.2.1 cT (by omega), blk_keep HF.out.2.2.1 cT (by omega), h1, HF.out.2.2.2.2.trans cT (fun z e => .inr (by omega))⟩
                clear h1 cT HF
                go_wp2_with fail
                go_roundw
                case rel => exact .inr (.inr (.inl ⟨rfl, rfl, HF3.out⟩))
                case measure => simp [intOf]
              · obtain ⟨y0, y1, y2, y3⟩ := cells4y HF.out.2.1
                go_wp2_with fail
                go_roundw
                case rel => exact .inr (.inr (.inr (.inl ⟨rfl, rfl, HF.out⟩)))
                case measure => simp [intOf]
              · obtain ⟨y0, y1, y2, y3⟩ := cells4y HF.out.2.1
                obtain ⟨s0, s1, s2, s3, s4⟩ := cells5 HF.out.1
                obtain ⟨x0, x1, x2, x3, x4⟩ := cells5 HF.out.2.2.2.1
                obtain ⟨z0, z1, z2, z3, z4⟩ := cells5f HF.out.2.2.2.1
                have h1 : ((wr).setCell ⟨b8, 4, none⟩ (.int .i64 d)).heap[b8]? = some (.cells #[.int .i64 mn, .int .i64 c, .int .i64 a, .int .i64 b, .int .i64 d] 27 (0, 0)) := set_blk _ HF.out.2.2.2.1
                have cT : Chg (fun q => q = b8) wr ((wr).setCell ⟨b8, 4, none⟩ (.int .i64 d)) := (Chg.refl (fun q => q = b8) wr).setCell (p := ⟨b8, 4, none⟩) (.inl rfl) _
                have HF3 : Hid (((wr).setCell ⟨b8, 4, none⟩ (.int .i64 d)).heap[w.heap.size]? = some (.cells #[.int .i64 n, .int .i64 a, .int .i64 b, .int .i64 c, .int .i64 d] 27 (0, 0)) ∧ ((wr).setCell ⟨b8, 4, none⟩ (.int .i64 d)).heap[w.heap.size + 1]? = some (.cells #[.int .i64 3, .int .u8 yb, .int .i64 yl, .int .i64 2] 34 (0, 0)) ∧ ((wr).setCell ⟨b8, 4, none⟩ (.int .i64 d)).heap[w.heap.size + 1 + 1]? = some (.cells #[.int .i64 0, .int .i64 0, .int .i64 0, .int .i64 0, .int .i64 0] 27 (0, 0)) ∧ ((wr).setCell ⟨b8, 4, none⟩ (.int .i64 d)).heap[b8]? = some (.cells #[.int .i64 mn, .int .i64 c, .int .i64 a, .int .i64 b, .int .i64 d] 27 (0, 0)) ∧ Chg (fun _ => False) w ((wr).setCell ⟨b8, 4, none⟩ (.int .i64 d))) := ⟨blk_keep HF.out.1 cT (by omega), blk_keep HF.out.2.1 cT (by omega), blk_keep HF.out.2.2.1 cT (by omega), h1, HF.out.2.2.2.2.trans cT (fun z e => .inr (by omega))⟩
                clear h1 cT HF
                go_wp2_with fail
                go_roundw
                case rel => exact .inr (.inr (.inr (.inr (⟨rfl, rfl, HF3.out⟩))))
                case measure => simp [intOf]
              · skip
                obtain ⟨_, _, hz, ht, hcc⟩ := HF.out
                obtain ⟨t0, t1, t2, t3, t4⟩ := cells5 ht
                obtain ⟨⟨p0, f0⟩, ⟨p1, f1⟩, ⟨p2, f2⟩, ⟨p3, f3⟩, ⟨p4, f4⟩, hblk, hchg⟩ := put5_of hz (.int .i64 mn) (.int .i64 c) (.int .i64 a) (.int .i64 b) (.int .i64 d)
                have HE : Hid _ := cells5 hblk
                have HCE : Hid (Chg (fun _ => False) w _) := hcc.trans hchg (fun z e => .inr (by omega))
                clear hz ht hcc hblk hchg
                go_wp2
                obtain ⟨q0, q1, q2, q3, q4⟩ := HE.out
                refine bodyPost_ret (v := .tuple #[.agg #[.int .i64 mn, .int .i64 c, .int .i64 a, .int .i64 b, .int .i64 d], .int .i64 0]) (by simp [results, Tryd.results8, go_sem, q0, q1, q2, q3, q4]) rfl ?_
                exact ⟨by rw [HNX.out]; rfl, HCE.out⟩
          · have h1 : ((Wt).setCell ⟨b8, 1, none⟩ (.int .i64 d)).heap[b8]? = some (.cells #[.int .i64 mn, .int .i64 d, .int .i64 b, .int .i64 c, .int .i64 d] 27 (0, 0)) := set_blk _ HT3.out
            obtain ⟨_, x1, _⟩ := cells5 HT3.out
            obtain ⟨_, z1, _⟩ := cells5f HT3.out
            have cT : Chg (fun q => q = b8) Wt ((Wt).setCell ⟨b8, 1, none⟩ (.int .i64 d)) := (Chg.refl (fun q => q = b8) Wt).setCell (p := ⟨b8, 1, none⟩) (.inl rfl) _
            have HF2 : Hid (((Wt).setCell ⟨b8, 1, none⟩ (.int .i64 d)).heap[w.heap.size]? = some (.cells #[.int .i64 n, .int .i64 a, .int .i64 b, .int .i64 c, .int .i64 d] 27 (0, 0)) ∧ ((Wt).setCell ⟨b8, 1, none⟩ (.int .i64 d)).heap[w.heap.size + 1]? = some (.cells #[.int .i64 3, .int .u8 yb, .int .i64 yl, .int .i64 3] 34 (0, 0)) ∧ ((Wt).setCell ⟨b8, 1, none⟩ (.int .i64 d)).heap[w.heap.size + 1 + 1]? = some (.cells #[.int .i64 0, .int .i64 0, .int .i64 0, .int .i64 0, .int .i64 0] 27 (0, 0)) ∧ ((Wt).setCell ⟨b8, 1, none⟩ (.int .i64 d)).heap[b8]? = some (.cells #[.int .i64 mn, .int .i64 d, .int .i64 b, .int .i64 c, .int .i64 d] 27 (0, 0)) ∧ Chg (fun _ => False) w ((Wt).setCell ⟨b8, 1, none⟩ (.int .i64 d))) := ⟨blk_keep HFT.out.1 cT (by omega), blk_keep HFT.out.2.1 cT (by omega), blk_keep HFT.out.2.2.1 cT (by omega), h1, HFT.out.2.2.2.2.trans cT (fun z e => .inr (by omega))⟩
            clear h1 cT HT3 HFT
            go_wp2_with fail
            generalize (Wt).setCell ⟨b8, 1, none⟩ (.int .i64 d) = We at *
            clear y0 y1 y2 y3 s0 s1 s2 s3 s4
            go_loopw [9, 10] (fun v1 v2 wr => (v1 = .int .i64 0 ∧ v2 = .int .i64 0 ∧ Hid (wr.heap[w.heap.size]? = some (.cells #[.int .i64 n, .int .i64 a, .int .i64 b, .int .i64 c, .int .i64 d] 27 (0, 0)) ∧ wr.heap[w.heap.size + 1]? = some (.cells #[.int .i64 3, .int .u8 yb, .int .i64 yl, .int .i64 3] 34 (0, 0)) ∧ wr.heap[w.heap.size + 1 + 1]? = some (.cells #[.int .i64 0, .int .i64 0, .int .i64 0, .int .i64 0, .int .i64 0] 27 (0, 0)) ∧ wr.heap[b8]? = some (.cells #[.int .i64 mn, .int .i64 d, .int .i64 b, .int .i64 c, .int .i64 d] 27 (0, 0)) ∧ Chg (fun _ => False) w wr)) ∨ (v1 = .int .i64 1 ∧ v2 = .int .i64 1 ∧ Hid (wr.heap[w.heap.size]? = some (.cells #[.int .i64 n, .int .i64 a, .int .i64 b, .int .i64 c, .int .i64 d] 27 (0, 0)) ∧ wr.heap[w.heap.size + 1]? = some (.cells #[.int .i64 3, .int .u8 yb, .int .i64 yl, .int .i64 3] 34 (0, 0)) ∧ wr.heap[w.heap.size + 1 + 1]? = some (.cells #[.int .i64 0, .int .i64 0, .int .i64 0, .int .i64 0, .int .i64 0] 27 (0, 0)) ∧ wr.heap[b8]? = some (.cells #[.int .i64 mn, .int .i64 d, .int .i64 a, .int .i64 c, .int .i64 d] 27 (0, 0)) ∧ Chg (fun _ => False) w wr)) ∨ (v1 = .int .i64 2 ∧ v2 = .int .i64 2 ∧ Hid (wr.heap[w.heap.size]? = some (.cells #[.int .i64 n, .int .i64 a, .int .i64 b, .int .i64 c, .int .i64 d] 27 (0, 0)) ∧ wr.heap[w.heap.size + 1]? = some (.cells #[.int .i64 3, .int .u8 yb, .int .i64 yl, .int .i64 3] 34 (0, 0)) ∧ wr.heap[w.heap.size + 1 + 1]? = some (.cells #[.int .i64 0, .int .i64 0, .int .i64 0, .int .i64 0, .int .i64 0] 27 (0, 0)) ∧ wr.heap[b8]? = some (.cells #[.int .i64 mn, .int .i64 d, .int .i64 a, .int .i64 b, .int .i64 d] 27 (0, 0)) ∧ Chg (fun _ => False) w wr)) ∨ (v1 = .int .i64 3 ∧ v2 = .int .i64 3 ∧ Hid (wr.heap[w.heap.size]? = some (.cells #[.int .i64 n, .int .i64 a, .int .i64 b, .int .i64 c, .int .i64 d] 27 (0, 0)) ∧ wr.heap[w.heap.size + 1]? = some (.cells #[.int .i64 3, .int .u8 yb, .int .i64 yl, .int .i64 3] 34 (0, 0)) ∧ wr.heap[w.heap.size + 1 + 1]? = some (.cells #[.int .i64 0, .int .i64 0, .int .i64 0, .int .i64 0, .int .i64 0] 27 (0, 0)) ∧ wr.heap[b8]? = some (.cells #[.int .i64 mn, .int .i64 d, .int .i64 a, .int .i64 b, .int .i64 c] 27 (0, 0)) ∧ Chg (fun _ => False) w wr)) ∨ (v1 = .int .i64 3 ∧ v2 = .int .i64 4 ∧ Hid (wr.heap[w.heap.size]? = some (.cells #[.int .i64 n, .int .i64 a, .int .i64 b, .int .i64 c, .int .i64 d] 27 (0, 0)) ∧ wr.heap[w.heap.size + 1]? = some (.cells #[.int .i64 3, .int .u8 yb, .int .i64 yl, .int .i64 3] 34 (0, 0)) ∧ wr.heap[w.heap.size + 1 + 1]? = some (.cells #[.int .i64 0, .int .i64 0, .int .i64 0, .int .i64 0, .int .i64 0] 27 (0, 0)) ∧ wr.heap[b8]? = some (.cells #[.int .i64 mn, .int .i64 d, .int .i64 a, .int .i64 b, .int .i64 c] 27 (0, 0)) ∧ Chg (fun _ => False) w wr))) (fun _ v2 _ => 4 - (intOf v2).toNat)
            case atStart => exact .inl ⟨rfl, rfl, HF2.out⟩
            case round =>
              clear HF2
              rcases hrel with ⟨rfl, rfl, HF⟩ | ⟨rfl, rfl, HF⟩ | ⟨rfl, rfl, HF⟩ | ⟨rfl, rfl, HF⟩ | ⟨rfl, rfl, HF⟩
              · obtain ⟨y0, y1, y2, y3⟩ := cells4y HF.out.2.1
                obtain ⟨s0, s1, s2, s3, s4⟩ := cells5 HF.out.1
                obtain ⟨x0, x1, x2, x3, x4⟩ := cells5 HF.out.2.2.2.1
                obtain ⟨z0, z1, z2, z3, z4⟩ := cells5f HF.out.2.2.2.1
                have h1 : ((wr).setCell ⟨b8, 2, none⟩ (.int .i64 a)).heap[b8]? = some (.cells #[.int .i64 mn, .int .i64 d, .int .i64 a, .int .i64 c, .int .i64 d] 27 (0, 0)) := set_blk _ HF.out.2.2.2.1
                have cT : Chg (fun q => q = b8) wr ((wr).setCell ⟨b8, 2, none⟩ (.int .i64 a)) := (Chg.refl (fun q => q = b8) wr).setCell (p := ⟨b8, 2, none⟩) (.inl rfl) _
                have HF3 : Hid (((wr).setCell ⟨b8, 2, none⟩ (.int .i64 a)).heap[w.heap.size]? = some (.cells #[.int .i64 n, .int .i64 a, .int .i64 b, .int .i64 c, .int .i64 d] 27 (0, 0)) ∧ ((wr).setCell ⟨b8, 2, none⟩ (.int .i64 a)).heap[w.heap.size + 1]? = some (.cells #[.int .i64 3, .int .u8 yb, .int .i64 yl, .int .i64 3] 34 (0, 0)) ∧ ((wr).setCell ⟨b8, 2, none⟩ (.int .i64 a)).heap[w.heap.size + 1 + 1]? = some (.cells #[.int .i64 0, .int .i64 0, .int .i64 0, .int .i64 0, .int .i64 0] 27 (0, 0)) ∧ ((wr).setCell ⟨b8, 2, none⟩ (.int .i64 a)).heap[b8]? = some (.cells #[.int .i64 mn, .int .i64 d, .int .i64 a, .int .i64 c, .int .i64 d] 27 (0, 0)) ∧ Chg (fun _ => False) w ((wr).setCell ⟨b8, 2, none⟩ (.int .i64 a))) := ⟨blk_keep HF.out.1 cT (by omega), blk_keep HF.out.2.1 cT (by omega), blk_keep HF.out.2.2.1 cT (by omega), h1, HF.out.2.2.2.2.trans cT (fun z e => .inr (by omega))⟩
                clear h1 cT HF
                go_wp2_with fail
                go_roundw
                case rel => exact .inr (.inl ⟨rfl, rfl, HF3.out⟩)
                case measure => simp [intOf]
              · obtain ⟨y0, y1, y2, y3⟩ := cells4y HF.out.2.1
                obtain ⟨s0, s1, s2, s3, s4⟩ := cells5 HF.out.1
                obtain ⟨x0, x1, x2, x3, x4⟩ := cells5 HF.out.2.2.2.1
                obtain ⟨z0, z1, z2, z3, z4⟩ := cells5f HF.out.2.2.2.1
                have h1 : ((wr).setCell ⟨b8, 3, none⟩ (.int .i64 b)).heap[b8]? = some (.cells #[.int .i64 mn, .int .i64 d, .int .i64 a, .int .i64 b, .int .i64 d] 27 (0, 0)) := set_blk _ HF.out.2.2.2.1
                have cT : Chg (fun q => q = b8) wr ((wr).setCell ⟨b8, 3, none⟩ (.int .i64 b)) := (Chg.refl (fun q => q = b8) wr).setCell (p := ⟨b8, 3, none⟩) (.inl rfl) _
                have HF3 : Hid (((wr).setCell ⟨b8, 3, none⟩ (.int .i64 b)).heap[w.heap.size]? = some (.cells #[.int .i64 n, .int .i64 a, .int .i64 b, .int .i64 c, .int .i64 d] 27 (0, 0)) ∧ ((wr).setCell ⟨b8, 3, none⟩ (.int .i64 b)).heap[w.heap.size + 1]? = some (.cells #[.int .i64 3, .int .u8 yb, .int .i64 yl, .int .i64 3] 34 (0, 0)) ∧ ((wr).setCell ⟨b8, 3, none⟩ (.int .i64 b)).heap[w.heap.size + 1 + 1]? = some (.cells #[.int .i64 0, .int .i64 0, .int .i64 0, .int .i64 0, .int .i64 0] 27 (0, 0)) ∧ ((wr).setCell ⟨b8, 3, none⟩ (.int .i64 b)).heap[b8]? = some (.cells #[.int .i64 mn, .int .i64 d, .int .i64 a, .int .i64 b, .int .i64 d] 27 (0, 0)) ∧ Chg (fun _ => False) w ((wr).setCell ⟨b8, 3, none⟩ (.int .i64 b))) := ⟨blk_keep HF.out.1 cT (by omega), blk_keep HF.out.2.1 cT (by omega), blk_keep HF.out.2.2.1 cT (by omega), h1, HF.out.2.2.2.2.trans cT (fun z e => .inr (by omega))⟩
                clear h1 cT HF
                go_wp2_with fail
                go_roundw
                case rel => exact .inr (.inr (.inl ⟨rfl, rfl, HF3.out⟩))
                case measure => simp [intOf]
              · obtain ⟨y0, y1, y2, y3⟩ := cells4y HF.out.2.1
                obtain ⟨s0, s1, s2, s3, s4⟩ := cells5 HF.out.1
                obtain ⟨x0, x1, x2, x3, x4⟩ := cells5 HF.out.2.2.2.1
                obtain ⟨z0, z1, z2, z3, z4⟩ := cells5f HF.out.2.2.2.1
                have h1 : ((wr).setCell ⟨b8, 4, none⟩ (.int .i64 c)).heap[b8]? = some (.cells #[.int .i64 mn, .int .i64 d, .int .i64 a, .int .i64 b, .int .i64 c] 27 (0, 0)) := set_blk _ HF.out.2.2.2.1
                have cT : Chg (fun q => q = b8) wr ((wr).setCell ⟨b8, 4, none⟩ (.int .i64 c)) := (Chg.refl (fun q => q = b8) wr).setCell (p := ⟨b8, 4, none⟩) (.inl rfl) _
                have HF3 : Hid (((wr).setCell ⟨b8, 4, none⟩ (.int .i64 c)).heap[w.heap.size]? = some (.cells #[.int .i64 n, .int .i64 a, .int .i64 b, .int .i64 c, .int .i64 d] 27 (0, 0)) ∧ ((wr).setCell ⟨b8, 4, none⟩ (.int .i64 c)).heap[w.heap.size + 1]? = some (.cells #[.int .i64 3, .int .u8 yb, .int .i64 yl, .int .i64 3] 34 (0, 0)) ∧ ((wr).setCell ⟨b8, 4, none⟩ (.int .i64 c)).heap[w.heap.size + 1 + 1]? = some (.cells #[.int .i64 0, .int .i64 0, .int .i64 0, .int .i64 0, .int .i64 0] 27 (0, 0)) ∧ ((wr).setCell ⟨b8, 4, none⟩ (.int .i64 c)).heap[b8]? = some (.cells #[.int .i64 mn, .int .i64 d, .int .i64 a, .int .i64 b, .int .i64 c] 27 (0, 0)) ∧ Chg (fun _ => False) w ((wr).setCell ⟨b8, 4, none⟩ (.int .i64 c))) := ⟨blk_keep HF.out.1 cT (by omega), blk_keep HF.out.2.1 cT (by omega), blk_keep HF.out.2.2.1 cT (by omega), h1, HF.out.2.2.2.2.trans cT (fun z e => .inr (by omega))⟩
                clear h1 cT HF
                go_wp2_with fail
                go_roundw
                case rel => exact .inr (.inr (.inr (.inl ⟨rfl, rfl, HF3.out⟩)))
                case measure => simp [intOf]
              · obtain ⟨y0, y1, y2, y3⟩ := cells4y HF.out.2.1
                go_wp2_with fail
                go_roundw
                case rel => exact .inr (.inr (.inr (.inr (⟨rfl, rfl, HF.out⟩))))
                case measure => simp [intOf]
              · skip
                obtain ⟨_, _, hz, ht, hcc⟩ := HF.out
                obtain ⟨t0, t1, t2, t3, t4⟩ := cells5 ht
                obtain ⟨⟨p0, f0⟩, ⟨p1, f1⟩, ⟨p2, f2⟩, ⟨p3, f3⟩, ⟨p4, f4⟩, hblk, hchg⟩ := put5_of hz (.int .i64 mn) (.int .i64 d) (.int .i64 a) (.int .i64 b) (.int .i64 c)
                have HE : Hid _ := cells5 hblk
                have HCE : Hid (Chg (fun _ => False) w _) := hcc.trans hchg (fun z e => .inr (by omega))
                clear hz ht hcc hblk hchg
                go_wp2
                obtain ⟨q0, q1, q2, q3, q4⟩ := HE.out
                refine bodyPost_ret (v := .tuple #[.agg #[.int .i64 mn, .int .i64 d, .int .i64 a, .int .i64 b, .int .i64 c], .int .i64 0]) (by simp [results, Tryd.results8, go_sem, q0, q1, q2, q3, q4]) rfl ?_
                exact ⟨by rw [HNX.out]; rfl, HCE.out⟩
        · clear HT3
          obtain ⟨_, _, hz, ht, hcc⟩ := HFT.out
          obtain ⟨t0, t1, t2, t3, t4⟩ := cells5 ht
          obtain ⟨⟨p0, f0⟩, ⟨p1, f1⟩, ⟨p2, f2⟩, ⟨p3, f3⟩, ⟨p4, f4⟩, hblk, hchg⟩ := put5_of hz (.int .i64 mn) (.int .i64 a) (.int .i64 b) (.int .i64 c) (.int .i64 d)
          have HE : Hid _ := cells5 hblk
          have HCE : Hid (Chg (fun _ => False) w _) := hcc.trans hchg (fun z e => .inr (by omega))
          clear hz ht hcc hblk hchg
          go_wp2
          obtain ⟨q0, q1, q2, q3, q4⟩ := HE.out
          refine bodyPost_ret (v := .tuple #[.agg #[.int .i64 mn, .int .i64 a, .int .i64 b, .int .i64 c, .int .i64 d], .int .i64 0]) (by simp [results, Tryd.results8, go_sem, q0, q1, q2, q3, q4]) rfl ?_
          exact ⟨by rw [HNX.out]; rfl, HCE.out⟩
    · obtain ⟨fe, hfe⟩ : ∃ fe, formed ⟨k, yb, yl, yd⟩ = fe := ⟨_, rfl⟩
      have HNX : Hid (nxt ⟨n, a, b, c, d⟩ ⟨k, yb, yl, yd⟩ = (zero, fe)) := by
        show _ = _
        unfold nxt
        rw [if_neg (not_not_intro HRT.out), if_pos hf, hfe]
      rw [hfe] at hf ⊢
      have e0 : (fe == 0) = false := by rw [beq_eq_false_iff_ne]; exact hf
      have e0' : (fe != 0) = true := by simp [hf]
      have e0'' : decide (fe = 0) = false := decide_eq_false hf
      obtain ⟨q0, q1, q2, q3, q4⟩ := cells5 HZ2.out
      obtain ⟨f0, f1, f2, f3, f4⟩ := cells5f HZ2.out
      have hP := put5_of HZ2.out (.int .i64 0) (.int .i64 0) (.int .i64 0) (.int .i64 0) (.int .i64 0)
      obtain ⟨⟨p0, g0⟩, ⟨p1, g1⟩, ⟨p2, g2⟩, ⟨p3, g3⟩, ⟨p4, g4⟩, hblk, hchg⟩ := hP
      have HE : Hid _ := cells5 hblk
      have HCE : Hid (Chg (fun _ => False) w _) := HC2.out.trans hchg (fun z e => .inr (by omega))
      clear hfe hblk hchg
      go_wp2
      obtain ⟨r0, r1, r2, r3, r4⟩ := HE.out
      refine bodyPost_ret (v := .tuple #[.agg #[.int .i64 0, .int .i64 0, .int .i64 0, .int .i64 0, .int .i64 0], .int .i64 fe]) (by simp [results, Tryd.results8, go_sem, r0, r1, r2, r3, r4]) rfl ?_
      exact ⟨by rw [HNX.out]; rfl, HCE.out⟩
  · have HNX : Hid (nxt ⟨n, a, b, c, d⟩ ⟨k, yb, yl, yd⟩ = (zero, 7)) := by
      show _ = _
      unfold nxt
      rw [if_pos hr]
    rw [decide_eq_false hr]
    clear hr HFO
    have hP := put5_of HZ1.out (.int .i64 0) (.int .i64 0) (.int .i64 0) (.int .i64 0) (.int .i64 0)
    obtain ⟨⟨p0, g0⟩, ⟨p1, g1⟩, ⟨p2, g2⟩, ⟨p3, g3⟩, ⟨p4, g4⟩, hblk, hchg⟩ := hP
    have HE : Hid _ := cells5 hblk
    have HCE : Hid (Chg (fun _ => False) w _) := HC1.out.trans hchg (fun z e => .inr (by omega))
    clear hblk hchg
    go_wp2
    obtain ⟨r0, r1, r2, r3, r4⟩ := HE.out
    refine bodyPost_ret (v := .tuple #[.agg #[.int .i64 0, .int .i64 0, .int .i64 0, .int .i64 0, .int .i64 0], .int .i64 7]) (by simp [results, Tryd.results8, go_sem, r0, r1, r2, r3, r4]) rfl ?_
    exact ⟨by rw [HNX.out]; rfl, HCE.out⟩
end Go.Proofs.YtkochonjfjlhpabDoor
