/- The program's Next; of no statement by itself. -/
import Derived.Test.YtoeimahlielklaaDoorVi
import Derived.Test.YtoeimahlielklaaDoorLastQ
namespace Go.Proofs.YtoeimahlielklaaDoor
open Go.RowKit
open St12
set_option linter.unusedVariables false
set_option linter.unusedSimpArgs false

theorem tbehind (n a b c d k yb yl yd : Int) (hf : formed ⟨k, yb, yl, yd⟩ = 0) : ∃ r0 r1 r2 r3, reps ⟨n, a, b, c, d⟩ ⟨k, yb, yl, yd⟩ = (r0, r1, r2, r3) ∧ ∀ w0, Calls Tryd.prog 18 #[.agg #[.int .i64 a, .int .i64 b, .int .i64 c, .int .i64 d], .agg #[.int .i64 k, .int .u8 yb, .int .i64 yl, .int .i64 yd]] w0 fun e w' => e = .returned (.agg #[.int .i64 r0, .int .i64 r1, .int .i64 r2, .int .i64 r3]) ∧ Chg (fun _ => False) w0 w' := by
  have hk := formed_kind hf
  simp only at hk
  rcases hk with rfl | ⟨rfl, hl1, hl2, hd1, hd2⟩ | ⟨rfl, hl1, hl2, hd1, hd2⟩ | rfl
  · exact ⟨a, b, c, d, rfl, fun w0 => behindo 1 a b c d yb yl yd (by decide) (by decide) w0⟩
  · exact ⟨yd, a, b, c, rfl, fun w0 => behind2 a b c d yb yl yd w0⟩
  · have hyd : yd = 0 ∨ yd = 1 ∨ yd = 2 ∨ yd = 3 := by omega
    rcases hyd with rfl | rfl | rfl | rfl
    · exact ⟨a, b, c, d, rfl, fun w0 => behind30 a b c d yb yl w0⟩
    · exact ⟨b, a, c, d, rfl, fun w0 => behind31 a b c d yb yl w0⟩
    · exact ⟨c, a, b, d, rfl, fun w0 => behind32 a b c d yb yl w0⟩
    · exact ⟨d, a, b, c, rfl, fun w0 => behind33 a b c d yb yl w0⟩
  · exact ⟨a, b, c, d, rfl, fun w0 => behindo 4 a b c d yb yl yd (by decide) (by decide) w0⟩
set_option maxHeartbeats 4000000 in
set_option maxRecDepth 100000 in
theorem tnext_any (n a b c d k yb yl yd : Int) (hs : (⟨n, a, b, c, d⟩ : Stt).I) (hy : (⟨k, yb, yl, yd⟩ : Sym).I) (w : World) (hT : Tab w) : Calls Tryd.prog 10 #[.agg #[.int .i64 n, .int .i64 a, .int .i64 b, .int .i64 c, .int .i64 d], .agg #[.int .i64 k, .int .u8 yb, .int .i64 yl, .int .i64 yd]] w fun e w' => e = .returned (.tuple #[stv (nxt ⟨n, a, b, c, d⟩ ⟨k, yb, yl, yd⟩).1, .int .i64 (nxt ⟨n, a, b, c, d⟩ ⟨k, yb, yl, yd⟩).2]) ∧ Chg (fun _ => False) w w' := by
  have HS : Hid ((((w.alloc (.cells #[.int .i64 n, .int .i64 a, .int .i64 b, .int .i64 c, .int .i64 d] 36)).alloc (.cells #[.int .i64 k, .int .u8 yb, .int .i64 yl, .int .i64 yd] 24)).alloc (.cells #[.int .i64 0, .int .i64 0, .int .i64 0, .int .i64 0, .int .i64 0] 36)).heap[w.heap.size]? = some (.cells #[.int .i64 n, .int .i64 a, .int .i64 b, .int .i64 c, .int .i64 d] 36 (0, 0))) := (Below.heap_alloc _ _ _ (by simp; omega)).trans ((Below.heap_alloc _ _ _ (by simp)).trans (heap_alloc_last w _))
  have HY : Hid ((((w.alloc (.cells #[.int .i64 n, .int .i64 a, .int .i64 b, .int .i64 c, .int .i64 d] 36)).alloc (.cells #[.int .i64 k, .int .u8 yb, .int .i64 yl, .int .i64 yd] 24)).alloc (.cells #[.int .i64 0, .int .i64 0, .int .i64 0, .int .i64 0, .int .i64 0] 36)).heap[w.heap.size + 1]? = some (.cells #[.int .i64 k, .int .u8 yb, .int .i64 yl, .int .i64 yd] 24 (0, 0))) := by
    have := heap_alloc_last (w.alloc (.cells #[.int .i64 n, .int .i64 a, .int .i64 b, .int .i64 c, .int .i64 d] 36)) (.cells #[.int .i64 k, .int .u8 yb, .int .i64 yl, .int .i64 yd] 24)
    rw [World.size_alloc] at this
    exact (Below.heap_alloc _ _ _ (by simp)).trans this
  have HZ : Hid ((((w.alloc (.cells #[.int .i64 n, .int .i64 a, .int .i64 b, .int .i64 c, .int .i64 d] 36)).alloc (.cells #[.int .i64 k, .int .u8 yb, .int .i64 yl, .int .i64 yd] 24)).alloc (.cells #[.int .i64 0, .int .i64 0, .int .i64 0, .int .i64 0, .int .i64 0] 36)).heap[w.heap.size + 1 + 1]? = some (.cells #[.int .i64 0, .int .i64 0, .int .i64 0, .int .i64 0, .int .i64 0] 36 (0, 0))) := by
    have := heap_alloc_last ((w.alloc (.cells #[.int .i64 n, .int .i64 a, .int .i64 b, .int .i64 c, .int .i64 d] 36)).alloc (.cells #[.int .i64 k, .int .u8 yb, .int .i64 yl, .int .i64 yd] 24)) (.cells #[.int .i64 0, .int .i64 0, .int .i64 0, .int .i64 0, .int .i64 0] 36)
    rw [World.size_alloc, World.size_alloc] at this
    exact this
  have HC : Hid (Chg (fun _ => False) w (((w.alloc (.cells #[.int .i64 n, .int .i64 a, .int .i64 b, .int .i64 c, .int .i64 d] 36)).alloc (.cells #[.int .i64 k, .int .u8 yb, .int .i64 yl, .int .i64 yd] 24)).alloc (.cells #[.int .i64 0, .int .i64 0, .int .i64 0, .int .i64 0, .int .i64 0] 36))) := chg_then (chg_then (chg_one _ _) (chg_one _ _)) (chg_one _ _)
  have HT : Hid (Tab (((w.alloc (.cells #[.int .i64 n, .int .i64 a, .int .i64 b, .int .i64 c, .int .i64 d] 36)).alloc (.cells #[.int .i64 k, .int .u8 yb, .int .i64 yl, .int .i64 yd] 24)).alloc (.cells #[.int .i64 0, .int .i64 0, .int .i64 0, .int .i64 0, .int .i64 0] 36))) := tab_keep hT HC.out
  have HR : Hid (∀ w', Calls Tryd.prog 15 #[.agg #[.int .i64 n, .int .i64 a, .int .i64 b, .int .i64 c, .int .i64 d]] w' fun e w'' => e = .returned (.bool (decide (right ⟨n, a, b, c, d⟩))) ∧ Chg (fun _ => False) w' w'') := fun w' => tright_q ⟨n, a, b, c, d⟩ hs w'
  have HK : Hid (∀ w', Calls Tryd.prog 16 #[.int .i64 k] w' fun e w'' => e = .returned (.bool (decide (1 ≤ k ∧ k ≤ 4))) ∧ w'' = w') := fun w' => known_q k w'
  have HFO : Hid (∀ w', Calls Tryd.prog 17 #[.agg #[.int .i64 k, .int .u8 yb, .int .i64 yl, .int .i64 yd]] w' fun e w'' => e = .returned (.bool (fmd ⟨k, yb, yl, yd⟩)) ∧ Chg (fun _ => False) w' w'') := fun w' => tformed_q k yb yl yd w'
  obtain ⟨s0, s1, s2, s3, s4⟩ := cells5 HS.out
  clear hT
  go_enter Tryd.func10, Tryd.ntmps10
  go_wp2_with fail
  generalize ((w.alloc (.cells #[.int .i64 n, .int .i64 a, .int .i64 b, .int .i64 c, .int .i64 d] 36)).alloc (.cells #[.int .i64 k, .int .u8 yb, .int .i64 yl, .int .i64 yd] 24)).alloc (.cells #[.int .i64 0, .int .i64 0, .int .i64 0, .int .i64 0, .int .i64 0] 36) = W at *
  refine (HR.out _).mono ?_
  rintro z w1 ⟨rfl, c1⟩
  have HS1 : Hid (w1.heap[w.heap.size]? = some (.cells #[.int .i64 n, .int .i64 a, .int .i64 b, .int .i64 c, .int .i64 d] 36 (0, 0))) := blk_keep HS.out c1 (fun f => f)
  have HY1 : Hid (w1.heap[w.heap.size + 1]? = some (.cells #[.int .i64 k, .int .u8 yb, .int .i64 yl, .int .i64 yd] 24 (0, 0))) := blk_keep HY.out c1 (fun f => f)
  have HZ1 : Hid (w1.heap[w.heap.size + 1 + 1]? = some (.cells #[.int .i64 0, .int .i64 0, .int .i64 0, .int .i64 0, .int .i64 0] 36 (0, 0))) := blk_keep HZ.out c1 (fun f => f)
  have HC1 : Hid (Chg (fun _ => False) w w1) := chg_then HC.out c1
  have HT1 : Hid (Tab w1) := tab_keep HT.out c1
  clear c1 HR HS HY HZ HC HT s0 s1 s2 s3 s4
  by_cases hr : right ⟨n, a, b, c, d⟩
  · rw [decide_eq_true hr]
    have HRT : Hid (right ⟨n, a, b, c, d⟩) := hr
    clear hr
    obtain ⟨y0, y1, y2, y3⟩ := cells4z HY1.out
    go_wp2_with fail
    refine (HK.out _).mono ?_
    rintro z w1' ⟨rfl, rfl⟩
    by_cases hkn : 1 ≤ k ∧ k ≤ 4
    · rw [decide_eq_true hkn]
      have HKK : Hid (1 ≤ k ∧ k ≤ 4) := hkn
      clear hkn HK
      go_wp2_with fail
      refine (HFO.out _).mono ?_
      rintro z W0 ⟨rfl, c2⟩
      have HS : Hid (W0.heap[w.heap.size]? = some (.cells #[.int .i64 n, .int .i64 a, .int .i64 b, .int .i64 c, .int .i64 d] 36 (0, 0))) := blk_keep HS1.out c2 (fun f => f)
      have HY : Hid (W0.heap[w.heap.size + 1]? = some (.cells #[.int .i64 k, .int .u8 yb, .int .i64 yl, .int .i64 yd] 24 (0, 0))) := blk_keep HY1.out c2 (fun f => f)
      have HZ : Hid (W0.heap[w.heap.size + 1 + 1]? = some (.cells #[.int .i64 0, .int .i64 0, .int .i64 0, .int .i64 0, .int .i64 0] 36 (0, 0))) := blk_keep HZ1.out c2 (fun f => f)
      have HC : Hid (Chg (fun _ => False) w W0) := chg_then HC1.out c2
      have HT : Hid (Tab W0) := tab_keep HT1.out c2
      clear c2 HFO HS1 HY1 HZ1 HC1 HT1 y0 y1 y2 y3
      have hfo := formed_of (y := ⟨k, yb, yl, yd⟩)
      rw [if_neg (not_not_intro HKK.out)] at hfo
      cases hfm : fmd ⟨k, yb, yl, yd⟩ with
      | true =>
        rw [hfm, if_neg (by decide)] at hfo
        obtain ⟨r0, r1, r2, r3, hrp, hbh⟩ := tbehind n a b c d k yb yl yd hfo
        obtain ⟨mn, hmn⟩ : ∃ mn, mvd n k = mn := ⟨_, rfl⟩
        have HNX : Hid (nxt ⟨n, a, b, c, d⟩ ⟨k, yb, yl, yd⟩ = (⟨mn, r0, r1, r2, r3⟩, 0)) := by
          show _ = _
          unfold nxt
          rw [if_neg (not_not_intro HRT.out), if_neg (not_not_intro hfo), hrp, ← hmn]
        have HBH : Hid _ := hbh
        clear hbh hrp hfo hfm
        obtain ⟨nn, rfl⟩ : ∃ nn : Nat, n = (nn : Int) := ⟨n.toNat, by have := HRT.out.1.1; simp only at this; omega⟩
        obtain ⟨kk, rfl⟩ : ∃ kk : Nat, k = (kk : Int) + 1 := ⟨(k - 1).toNat, by have := HKK.out.1; omega⟩
        have HKN : Hid (kk < 4 ∧ nn < 12) := ⟨by have := HKK.out.2; omega, by have := HRT.out.1.2; simp only at this; omega⟩
        have HMN : Hid (mvd (nn : Int) ((kk : Int) + 1) = mn) := hmn
        have hkk : (kk : Int) < 4 := by have := HKN.out.1; omega
        have hnn : (nn : Int) < 12 := by have := HKN.out.2; omega
        clear hmn
        go_wp2_with fail
        refine wp_region_phaseQ (mk := fun u => #[_, _, _, _, _, _, _, _, _, _, _, _, _, _, _, _, _, _, _, _, _, _, u 22, u 23, u 24, u 25, u 26, u 27, u 28, u 29, u 30, u 31, u 32, u 33, u 34]) (G := lookG [(22, .pointer (some ⟨(w.heap.size + 1), 0, none⟩)), (23, .int .i64 ((kk : Int) + 1)), (24, .int .i64 (kk : Int)), (25, .pointer (some ⟨w.heap.size, 0, none⟩)), (26, .int .i64 (nn : Int)), (27, .pointer (some ⟨0, (kk * 12), none⟩)), (28, .pointer (some ⟨0, (kk * 12 + nn), none⟩)), (29, .int .i64 mn), (30, .pointer (some ⟨w.heap.size, 1, none⟩)), (31, .agg #[.int .i64 a, .int .i64 b, .int .i64 c, .int .i64 d]), (32, .agg #[.int .i64 ((kk : Int) + 1), .int .u8 yb, .int .i64 yl, .int .i64 yd]), (33, .agg #[.int .i64 r0, .int .i64 r1, .int .i64 r2, .int .i64 r3]), (34, .agg #[.int .i64 mn, .int .i64 r0, .int .i64 r1, .int .i64 r2, .int .i64 r3])]) (J := fun q u ww => (q ≤ 1 → Chg (fun _ => False) W0 ww) ∧ (q = 2 → ww.heap[w.heap.size + 1 + 1]? = some (.cells #[.int .i64 mn, .int .i64 r0, .int .i64 r1, .int .i64 r2, .int .i64 r3] 36 (0, 0)) ∧ Chg (fun _ => False) w ww)) [11, 13] (fun i => if i = 0 then 1 else if i = 1 then 1 else if i = 2 then 1 else if i = 3 then 1 else if i = 4 then 1 else if i = 5 then 1 else if i = 6 then 1 else if i = 7 then 1 else if i = 8 then 1 else if i = 9 then 1 else if i = 10 then 1 else if i = 12 then 1 else 2) ([]) (fun t => if t = 5 then .int .i64 0 else undef) rfl (by kernel_rfl) 14 _ rfl rfl (by kernel_rfl) (by kernel_rfl) (by kernel_rfl) (by decide) ?_ ?_ ?_ (by kernel_rfl) ?_ ?_
        · repeat (refine ⟨fun _ _ => rfl, ?_⟩)
          exact trivial
        · exact fun q u u2 ww h hj => hj
        · exact ⟨fun _ => (Chg.refl _ W0).drew, fun h => by omega⟩
        · refine ⟨?_, ?_, ?_, ?_, ?_, ?_, ?_, ?_, ?_, ?_, ?_, ?_, ?_, ?_, trivial⟩
          · show StepRQ _ _ _ _ _ _ _ _ _ -- 22
            unfold StepRQ
            intro q hq u w_ hj hd K hK
            clear hd
            go_simp
            exact hK.out (.pointer (some ⟨(w.heap.size + 1), 0, none⟩)) rfl
          · show StepRQ _ _ _ _ _ _ _ _ _ -- 23
            unfold StepRQ
            intro q hq u w_ hj hd K hK
            have h22 : u 22 = .pointer (some ⟨(w.heap.size + 1), 0, none⟩) := hd.get 0 (by kernel_rfl)
            clear hd
            simp only [h22] at hK
            have hc := hj.1 (by simpa using hq)
            obtain ⟨y0, _⟩ := cells4z (blk_keep HY.out hc (fun f => f))
            clear hj hc
            go_simp
            exact hK.out _ rfl
          · show StepRQ _ _ _ _ _ _ _ _ _ -- 24
            unfold StepRQ
            intro q hq u w_ hj hd K hK
            have h23 : u 23 = .int .i64 ((kk : Int) + 1) := hd.get 1 (by kernel_rfl)
            clear hd
            simp only [h23] at hK
            clear hj
            go_simp
            rw [show IntKind.i64.wrap (kk : Int) = (kk : Int) by rw [IntKind.wrap_i64]; omega]
            exact hK.out _ rfl
          · show StepRQ _ _ _ _ _ _ _ _ _ -- 25
            unfold StepRQ
            intro q hq u w_ hj hd K hK
            clear hd
            go_simp
            exact hK.out (.pointer (some ⟨w.heap.size, 0, none⟩)) rfl
          · show StepRQ _ _ _ _ _ _ _ _ _ -- 26
            unfold StepRQ
            intro q hq u w_ hj hd K hK
            have h25 : u 25 = .pointer (some ⟨w.heap.size, 0, none⟩) := hd.get 3 (by kernel_rfl)
            clear hd
            simp only [h25] at hK
            have hc := hj.1 (by simpa using hq)
            obtain ⟨s0, _⟩ := cells5 (blk_keep HS.out hc (fun f => f))
            clear hj hc
            go_simp
            exact hK.out _ rfl
          · show StepRQ _ _ _ _ _ _ _ _ _ -- 27
            unfold StepRQ
            intro q hq u w_ hj hd K hK
            have h24 : u 24 = .int .i64 (kk : Int) := hd.get 2 (by kernel_rfl)
            clear hd
            simp only [h24] at hK
            clear hj
            go_simp
            exact hK.out _ rfl
          · show StepRQ _ _ _ _ _ _ _ _ _ -- 28
            unfold StepRQ
            intro q hq u w_ hj hd K hK
            have h27 : u 27 = .pointer (some ⟨0, (kk * 12), none⟩) := hd.get 5 (by kernel_rfl)
            have h26 : u 26 = .int .i64 (nn : Int) := hd.get 4 (by kernel_rfl)
            clear hd
            simp only [h27, h26] at hK
            clear hj
            go_simp
            exact hK.out _ rfl
          · show StepRQ _ _ _ _ _ _ _ _ _ -- 29
            unfold StepRQ
            intro q hq u w_ hj hd K hK
            have h28 : u 28 = .pointer (some ⟨0, (kk * 12 + nn), none⟩) := hd.get 6 (by kernel_rfl)
            clear hd
            simp only [h28] at hK
            have hc := hj.1 (by simpa using hq)
            have kq := tab_move (tab_keep HT.out hc) HKN.out.1 HKN.out.2
            rw [HMN.out] at kq
            clear hj hc
            go_simp
            exact hK.out _ rfl
          · show StepRQ _ _ _ _ _ _ _ _ _ -- 30
            unfold StepRQ
            intro q hq u w_ hj hd K hK
            clear hd
            go_simp
            exact hK.out (.pointer (some ⟨w.heap.size, 1, none⟩)) rfl
          · show StepRQ _ _ _ _ _ _ _ _ _ -- 31
            unfold StepRQ
            intro q hq u w_ hj hd K hK
            have h30 : u 30 = .pointer (some ⟨w.heap.size, 1, none⟩) := hd.get 8 (by kernel_rfl)
            clear hd
            simp only [h30] at hK
            have hc := hj.1 (by simpa using hq)
            obtain ⟨_, s1, s2, s3, s4⟩ := cells5 (blk_keep HS.out hc (fun f => f))
            clear hj hc
            go_simp
            exact hK.out _ rfl
          · show StepRQ _ _ _ _ _ _ _ _ _ -- 32
            unfold StepRQ
            intro q hq u w_ hj hd K hK
            clear hd
            have hc := hj.1 (by simpa using hq)
            obtain ⟨y0, y1, y2, y3⟩ := cells4z (blk_keep HY.out hc (fun f => f))
            clear hj hc
            go_simp
            exact hK.out _ rfl
          · show StepWQ _ _ _ _ _ _ _ _ _ -- 33
            unfold StepWQ
            intro u w_ hj hd K hK
            have h31 : u 31 = .agg #[.int .i64 a, .int .i64 b, .int .i64 c, .int .i64 d] := hd.get 9 (by kernel_rfl)
            have h32 : u 32 = .agg #[.int .i64 ((kk : Int) + 1), .int .u8 yb, .int .i64 yl, .int .i64 yd] := hd.get 10 (by kernel_rfl)
            clear hd
            simp only [h31, h32] at hK
            have hc := hj.1 (by omega)
            clear hj
            go_simp
            go_at_call 18
            refine (HBH.out w_).mono ?_
            rintro z w2 ⟨rfl, c2⟩
            exact hK.out _ _ ⟨fun _ => chg_then hc c2, fun h => by omega⟩ rfl
          · show StepRQ _ _ _ _ _ _ _ _ _ -- 34
            unfold StepRQ
            intro q hq u w_ hj hd K hK
            have h29 : u 29 = .int .i64 mn := hd.get 7 (by kernel_rfl)
            have h33 : u 33 = .agg #[.int .i64 r0, .int .i64 r1, .int .i64 r2, .int .i64 r3] := hd.get 11 (by kernel_rfl)
            clear hd
            simp only [h29, h33] at hK
            go_simp
            exact hK.out (.agg #[.int .i64 mn, .int .i64 r0, .int .i64 r1, .int .i64 r2, .int .i64 r3]) rfl
          · show StepWQ _ _ _ _ _ _ _ _ _ -- #13
            unfold StepWQ
            intro u w_ hj hd K hK
            have h34 : u 34 = .agg #[.int .i64 mn, .int .i64 r0, .int .i64 r1, .int .i64 r2, .int .i64 r3] := hd.get 12 (by kernel_rfl)
            clear hd
            simp only [h34] at hK
            have hc := hj.1 (by omega)
            have hz := blk_keep HZ.out hc (fun f => f)
            have hC := chg_then HC.out hc
            obtain ⟨⟨p0, f0⟩, ⟨p1, f1⟩, ⟨p2, f2⟩, ⟨p3, f3⟩, ⟨p4, f4⟩, hblk, hchg⟩ := put5_of hz (.int .i64 mn) (.int .i64 r0) (.int .i64 r1) (.int .i64 r2) (.int .i64 r3)
            have HE : Hid _ := And.intro hblk (hC.trans hchg (fun z e => .inr (by omega)))
            clear hj hc hz hC hblk hchg
            go_simp
            exact hK.out undef _ ⟨fun h => by omega, fun _ => HE.out⟩ trivial
        · intro u w5 hj hA K hK
          obtain ⟨_, h8⟩ := hj
          obtain ⟨hb, hC⟩ := h8 rfl
          have HE : Hid _ := cells5 hb
          have HCE : Hid _ := hC
          clear hA h8 hb hC HS HY HZ HC HT
          go_simp
          refine hK.out _ _ ?_
          clear hK
          go_wp2
          obtain ⟨q0, q1, q2, q3, q4⟩ := HE.out
          refine bodyPost_ret (v := .tuple #[.agg #[.int .i64 mn, .int .i64 r0, .int .i64 r1, .int .i64 r2, .int .i64 r3], .int .i64 0]) (by simp [results, Tryd.results10, go_sem, q0, q1, q2, q3, q4]) rfl ?_
          exact ⟨by rw [HNX.out]; rfl, HCE.out⟩
      | false =>
        rw [hfm, if_pos rfl] at hfo
        have HNX : Hid (nxt ⟨n, a, b, c, d⟩ ⟨k, yb, yl, yd⟩ = (zero, 7)) := by
          show _ = _
          unfold nxt
          rw [if_neg (not_not_intro HRT.out), if_pos (by rw [hfo]; decide), hfo]
        clear hfo hfm
        obtain ⟨⟨p0, g0⟩, ⟨p1, g1⟩, ⟨p2, g2⟩, ⟨p3, g3⟩, ⟨p4, g4⟩, hblk, hchg⟩ := put5_of HZ.out (.int .i64 0) (.int .i64 0) (.int .i64 0) (.int .i64 0) (.int .i64 0)
        have HE : Hid _ := cells5 hblk
        have HCE : Hid (Chg (fun _ => False) w _) := HC.out.trans hchg (fun z e => .inr (by omega))
        clear hblk hchg HS HY HZ HC HT
        go_wp2
        obtain ⟨q0, q1, q2, q3, q4⟩ := HE.out
        refine bodyPost_ret (v := .tuple #[.agg #[.int .i64 0, .int .i64 0, .int .i64 0, .int .i64 0, .int .i64 0], .int .i64 7]) (by simp [results, Tryd.results10, go_sem, q0, q1, q2, q3, q4]) rfl ?_
        exact ⟨by rw [HNX.out]; rfl, HCE.out⟩
    · rw [decide_eq_false hkn]
      have hfo := formed_of (y := ⟨k, yb, yl, yd⟩)
      rw [if_pos hkn] at hfo
      have HNX : Hid (nxt ⟨n, a, b, c, d⟩ ⟨k, yb, yl, yd⟩ = (zero, 6)) := by
        show _ = _
        unfold nxt
        rw [if_neg (not_not_intro HRT.out), if_pos (by rw [hfo]; decide), hfo]
      clear hfo hkn HK HFO
      obtain ⟨⟨p0, g0⟩, ⟨p1, g1⟩, ⟨p2, g2⟩, ⟨p3, g3⟩, ⟨p4, g4⟩, hblk, hchg⟩ := put5_of HZ1.out (.int .i64 0) (.int .i64 0) (.int .i64 0) (.int .i64 0) (.int .i64 0)
      have HE : Hid _ := cells5 hblk
      have HCE : Hid (Chg (fun _ => False) w _) := HC1.out.trans hchg (fun z e => .inr (by omega))
      clear hblk hchg HS1 HY1 HZ1 HC1 HT1
      go_wp2
      obtain ⟨q0, q1, q2, q3, q4⟩ := HE.out
      refine bodyPost_ret (v := .tuple #[.agg #[.int .i64 0, .int .i64 0, .int .i64 0, .int .i64 0, .int .i64 0], .int .i64 6]) (by simp [results, Tryd.results10, go_sem, q0, q1, q2, q3, q4]) rfl ?_
      exact ⟨by rw [HNX.out]; rfl, HCE.out⟩
  · have HNX : Hid (nxt ⟨n, a, b, c, d⟩ ⟨k, yb, yl, yd⟩ = (zero, 7)) := by
      show _ = _
      unfold nxt
      rw [if_pos hr]
    rw [decide_eq_false hr]
    clear hr HFO HK
    obtain ⟨⟨p0, g0⟩, ⟨p1, g1⟩, ⟨p2, g2⟩, ⟨p3, g3⟩, ⟨p4, g4⟩, hblk, hchg⟩ := put5_of HZ1.out (.int .i64 0) (.int .i64 0) (.int .i64 0) (.int .i64 0) (.int .i64 0)
    have HE : Hid _ := cells5 hblk
    have HCE : Hid (Chg (fun _ => False) w _) := HC1.out.trans hchg (fun z e => .inr (by omega))
    clear hblk hchg HS1 HY1 HZ1 HC1 HT1
    go_wp2
    obtain ⟨q0, q1, q2, q3, q4⟩ := HE.out
    refine bodyPost_ret (v := .tuple #[.agg #[.int .i64 0, .int .i64 0, .int .i64 0, .int .i64 0, .int .i64 0], .int .i64 7]) (by simp [results, Tryd.results10, go_sem, q0, q1, q2, q3, q4]) rfl ?_
    exact ⟨by rw [HNX.out]; rfl, HCE.out⟩
end Go.Proofs.YtoeimahlielklaaDoor
