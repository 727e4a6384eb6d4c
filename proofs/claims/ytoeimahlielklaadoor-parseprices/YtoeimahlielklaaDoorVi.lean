/- The distances behind a symbol: the program's; of no statement by itself. -/
import Derived.Test.YtoeimahlielklaaDoorVh
namespace Go.Proofs.YtoeimahlielklaaDoor
open Go.RowKit
open St12
set_option linter.unusedVariables false
set_option linter.unusedSimpArgs false

set_option maxHeartbeats 1000000 in
set_option maxRecDepth 100000 in
theorem behind2 (a b c d yb yl yd : Int) (w0 : World) : Calls Tryd.prog 18 #[.agg #[.int .i64 a, .int .i64 b, .int .i64 c, .int .i64 d], .agg #[.int .i64 2, .int .u8 yb, .int .i64 yl, .int .i64 yd]] w0 fun e w' => e = .returned (.agg #[.int .i64 yd, .int .i64 a, .int .i64 b, .int .i64 c]) ∧ Chg (fun _ => False) w0 w' := by
  have HS : Hid ((((w0.alloc (.cells #[.int .i64 a, .int .i64 b, .int .i64 c, .int .i64 d] 34)).alloc (.cells #[.int .i64 2, .int .u8 yb, .int .i64 yl, .int .i64 yd] 24)).alloc (.cells #[.int .i64 0, .int .i64 0, .int .i64 0, .int .i64 0] 34)).heap[w0.heap.size]? = some (.cells #[.int .i64 a, .int .i64 b, .int .i64 c, .int .i64 d] 34 (0, 0))) := (Below.heap_alloc _ _ _ (by simp; omega)).trans ((Below.heap_alloc _ _ _ (by simp)).trans (heap_alloc_last w0 _))
  have HY : Hid ((((w0.alloc (.cells #[.int .i64 a, .int .i64 b, .int .i64 c, .int .i64 d] 34)).alloc (.cells #[.int .i64 2, .int .u8 yb, .int .i64 yl, .int .i64 yd] 24)).alloc (.cells #[.int .i64 0, .int .i64 0, .int .i64 0, .int .i64 0] 34)).heap[w0.heap.size + 1]? = some (.cells #[.int .i64 2, .int .u8 yb, .int .i64 yl, .int .i64 yd] 24 (0, 0))) := by
    have := heap_alloc_last (w0.alloc (.cells #[.int .i64 a, .int .i64 b, .int .i64 c, .int .i64 d] 34)) (.cells #[.int .i64 2, .int .u8 yb, .int .i64 yl, .int .i64 yd] 24)
    rw [World.size_alloc] at this
    exact (Below.heap_alloc _ _ _ (by simp)).trans this
  have HZ : Hid ((((w0.alloc (.cells #[.int .i64 a, .int .i64 b, .int .i64 c, .int .i64 d] 34)).alloc (.cells #[.int .i64 2, .int .u8 yb, .int .i64 yl, .int .i64 yd] 24)).alloc (.cells #[.int .i64 0, .int .i64 0, .int .i64 0, .int .i64 0] 34)).heap[w0.heap.size + 1 + 1]? = some (.cells #[.int .i64 0, .int .i64 0, .int .i64 0, .int .i64 0] 34 (0, 0))) := by
    have := heap_alloc_last ((w0.alloc (.cells #[.int .i64 a, .int .i64 b, .int .i64 c, .int .i64 d] 34)).alloc (.cells #[.int .i64 2, .int .u8 yb, .int .i64 yl, .int .i64 yd] 24)) (.cells #[.int .i64 0, .int .i64 0, .int .i64 0, .int .i64 0] 34)
    rw [World.size_alloc, World.size_alloc] at this
    exact this
  have HC : Hid (Chg (fun _ => False) w0 (((w0.alloc (.cells #[.int .i64 a, .int .i64 b, .int .i64 c, .int .i64 d] 34)).alloc (.cells #[.int .i64 2, .int .u8 yb, .int .i64 yl, .int .i64 yd] 24)).alloc (.cells #[.int .i64 0, .int .i64 0, .int .i64 0, .int .i64 0] 34))) := chg_then (chg_then (chg_one _ _) (chg_one _ _)) (chg_one _ _)
  obtain ⟨s0, s1, s2, s3⟩ := cells4z HS.out
  obtain ⟨y0, y1, y2, y3⟩ := cells4z HY.out
  have HQ : Hid (∀ ww, Calls Tryd.prog 24 #[.agg #[.int .i64 a, .int .i64 b, .int .i64 c, .int .i64 d], .int .i64 3, .int .i64 yd] ww fun e w' => e = .returned (.agg #[.int .i64 yd, .int .i64 a, .int .i64 b, .int .i64 c]) ∧ Chg (fun _ => False) ww w') := fun ww => infront3 a b c d yd ww
  go_enter Tryd.func18, Tryd.ntmps18
  go_wp2_with fail
  generalize ((w0.alloc (.cells #[.int .i64 a, .int .i64 b, .int .i64 c, .int .i64 d] 34)).alloc (.cells #[.int .i64 2, .int .u8 yb, .int .i64 yl, .int .i64 yd] 24)).alloc (.cells #[.int .i64 0, .int .i64 0, .int .i64 0, .int .i64 0] 34) = W at *
  refine (HQ.out _).mono ?_
  rintro z w2 ⟨rfl, c2⟩
  clear s0 s1 s2 s3 y0 y1 y2 y3 HQ
  obtain ⟨⟨p0, g0⟩, ⟨p1, g1⟩, ⟨p2, g2⟩, ⟨p3, g3⟩, hblk, hchg⟩ := put4_of (blk_keep HZ.out c2 (fun f => f)) (.int .i64 yd) (.int .i64 a) (.int .i64 b) (.int .i64 c)
  have HX : Hid _ := cells4z hblk
  have HCX : Hid (Chg (fun _ => False) w0 _) := (chg_then HC.out c2).trans hchg (fun z e => .inr (by omega))
  clear hblk hchg
  clear c2 HS HY HZ HC
  go_wp2
  obtain ⟨r0, r1, r2, r3⟩ := HX.out
  refine bodyPost_ret (v := .agg #[.int .i64 yd, .int .i64 a, .int .i64 b, .int .i64 c]) (by simp [results, Tryd.results18, go_sem, r0, r1, r2, r3]) rfl ?_
  exact ⟨rfl, HCX.out⟩

set_option maxHeartbeats 1000000 in
set_option maxRecDepth 100000 in
theorem behindo (k a b c d yb yl yd : Int) (h2 : k ≠ 2) (h3 : k ≠ 3) (w0 : World) : Calls Tryd.prog 18 #[.agg #[.int .i64 a, .int .i64 b, .int .i64 c, .int .i64 d], .agg #[.int .i64 k, .int .u8 yb, .int .i64 yl, .int .i64 yd]] w0 fun e w' => e = .returned (.agg #[.int .i64 a, .int .i64 b, .int .i64 c, .int .i64 d]) ∧ Chg (fun _ => False) w0 w' := by
  have HS : Hid ((((w0.alloc (.cells #[.int .i64 a, .int .i64 b, .int .i64 c, .int .i64 d] 34)).alloc (.cells #[.int .i64 k, .int .u8 yb, .int .i64 yl, .int .i64 yd] 24)).alloc (.cells #[.int .i64 0, .int .i64 0, .int .i64 0, .int .i64 0] 34)).heap[w0.heap.size]? = some (.cells #[.int .i64 a, .int .i64 b, .int .i64 c, .int .i64 d] 34 (0, 0))) := (Below.heap_alloc _ _ _ (by simp; omega)).trans ((Below.heap_alloc _ _ _ (by simp)).trans (heap_alloc_last w0 _))
  have HY : Hid ((((w0.alloc (.cells #[.int .i64 a, .int .i64 b, .int .i64 c, .int .i64 d] 34)).alloc (.cells #[.int .i64 k, .int .u8 yb, .int .i64 yl, .int .i64 yd] 24)).alloc (.cells #[.int .i64 0, .int .i64 0, .int .i64 0, .int .i64 0] 34)).heap[w0.heap.size + 1]? = some (.cells #[.int .i64 k, .int .u8 yb, .int .i64 yl, .int .i64 yd] 24 (0, 0))) := by
    have := heap_alloc_last (w0.alloc (.cells #[.int .i64 a, .int .i64 b, .int .i64 c, .int .i64 d] 34)) (.cells #[.int .i64 k, .int .u8 yb, .int .i64 yl, .int .i64 yd] 24)
    rw [World.size_alloc] at this
    exact (Below.heap_alloc _ _ _ (by simp)).trans this
  have HZ : Hid ((((w0.alloc (.cells #[.int .i64 a, .int .i64 b, .int .i64 c, .int .i64 d] 34)).alloc (.cells #[.int .i64 k, .int .u8 yb, .int .i64 yl, .int .i64 yd] 24)).alloc (.cells #[.int .i64 0, .int .i64 0, .int .i64 0, .int .i64 0] 34)).heap[w0.heap.size + 1 + 1]? = some (.cells #[.int .i64 0, .int .i64 0, .int .i64 0, .int .i64 0] 34 (0, 0))) := by
    have := heap_alloc_last ((w0.alloc (.cells #[.int .i64 a, .int .i64 b, .int .i64 c, .int .i64 d] 34)).alloc (.cells #[.int .i64 k, .int .u8 yb, .int .i64 yl, .int .i64 yd] 24)) (.cells #[.int .i64 0, .int .i64 0, .int .i64 0, .int .i64 0] 34)
    rw [World.size_alloc, World.size_alloc] at this
    exact this
  have HC : Hid (Chg (fun _ => False) w0 (((w0.alloc (.cells #[.int .i64 a, .int .i64 b, .int .i64 c, .int .i64 d] 34)).alloc (.cells #[.int .i64 k, .int .u8 yb, .int .i64 yl, .int .i64 yd] 24)).alloc (.cells #[.int .i64 0, .int .i64 0, .int .i64 0, .int .i64 0] 34))) := chg_then (chg_then (chg_one _ _) (chg_one _ _)) (chg_one _ _)
  obtain ⟨s0, s1, s2, s3⟩ := cells4z HS.out
  obtain ⟨y0, y1, y2, y3⟩ := cells4z HY.out
  obtain ⟨⟨p0, g0⟩, ⟨p1, g1⟩, ⟨p2, g2⟩, ⟨p3, g3⟩, hblk, hchg⟩ := put4_of HZ.out (.int .i64 a) (.int .i64 b) (.int .i64 c) (.int .i64 d)
  have HX : Hid _ := cells4z hblk
  have HCX : Hid (Chg (fun _ => False) w0 _) := HC.out.trans hchg (fun z e => .inr (by omega))
  clear hblk hchg
  have e2 : (k == 2) = false := by simp [h2]
  have e3 : (k == 3) = false := by simp [h3]
  clear HS HY HZ HC
  go_enter Tryd.func18, Tryd.ntmps18
  go_wp2
  obtain ⟨r0, r1, r2, r3⟩ := HX.out
  refine bodyPost_ret (v := .agg #[.int .i64 a, .int .i64 b, .int .i64 c, .int .i64 d]) (by simp [results, Tryd.results18, go_sem, r0, r1, r2, r3]) rfl ?_
  exact ⟨rfl, chg_then (chg_then (chg_one _ _) (chg_one _ _)) (chg_one _ _)⟩

set_option maxHeartbeats 1000000 in
set_option maxRecDepth 100000 in
theorem behind30 (a b c d yb yl : Int) (w0 : World) : Calls Tryd.prog 18 #[.agg #[.int .i64 a, .int .i64 b, .int .i64 c, .int .i64 d], .agg #[.int .i64 3, .int .u8 yb, .int .i64 yl, .int .i64 0]] w0 fun e w' => e = .returned (.agg #[.int .i64 a, .int .i64 b, .int .i64 c, .int .i64 d]) ∧ Chg (fun _ => False) w0 w' := by
  have HS : Hid ((((w0.alloc (.cells #[.int .i64 a, .int .i64 b, .int .i64 c, .int .i64 d] 34)).alloc (.cells #[.int .i64 3, .int .u8 yb, .int .i64 yl, .int .i64 0] 24)).alloc (.cells #[.int .i64 0, .int .i64 0, .int .i64 0, .int .i64 0] 34)).heap[w0.heap.size]? = some (.cells #[.int .i64 a, .int .i64 b, .int .i64 c, .int .i64 d] 34 (0, 0))) := (Below.heap_alloc _ _ _ (by simp; omega)).trans ((Below.heap_alloc _ _ _ (by simp)).trans (heap_alloc_last w0 _))
  have HY : Hid ((((w0.alloc (.cells #[.int .i64 a, .int .i64 b, .int .i64 c, .int .i64 d] 34)).alloc (.cells #[.int .i64 3, .int .u8 yb, .int .i64 yl, .int .i64 0] 24)).alloc (.cells #[.int .i64 0, .int .i64 0, .int .i64 0, .int .i64 0] 34)).heap[w0.heap.size + 1]? = some (.cells #[.int .i64 3, .int .u8 yb, .int .i64 yl, .int .i64 0] 24 (0, 0))) := by
    have := heap_alloc_last (w0.alloc (.cells #[.int .i64 a, .int .i64 b, .int .i64 c, .int .i64 d] 34)) (.cells #[.int .i64 3, .int .u8 yb, .int .i64 yl, .int .i64 0] 24)
    rw [World.size_alloc] at this
    exact (Below.heap_alloc _ _ _ (by simp)).trans this
  have HZ : Hid ((((w0.alloc (.cells #[.int .i64 a, .int .i64 b, .int .i64 c, .int .i64 d] 34)).alloc (.cells #[.int .i64 3, .int .u8 yb, .int .i64 yl, .int .i64 0] 24)).alloc (.cells #[.int .i64 0, .int .i64 0, .int .i64 0, .int .i64 0] 34)).heap[w0.heap.size + 1 + 1]? = some (.cells #[.int .i64 0, .int .i64 0, .int .i64 0, .int .i64 0] 34 (0, 0))) := by
    have := heap_alloc_last ((w0.alloc (.cells #[.int .i64 a, .int .i64 b, .int .i64 c, .int .i64 d] 34)).alloc (.cells #[.int .i64 3, .int .u8 yb, .int .i64 yl, .int .i64 0] 24)) (.cells #[.int .i64 0, .int .i64 0, .int .i64 0, .int .i64 0] 34)
    rw [World.size_alloc, World.size_alloc] at this
    exact this
  have HC : Hid (Chg (fun _ => False) w0 (((w0.alloc (.cells #[.int .i64 a, .int .i64 b, .int .i64 c, .int .i64 d] 34)).alloc (.cells #[.int .i64 3, .int .u8 yb, .int .i64 yl, .int .i64 0] 24)).alloc (.cells #[.int .i64 0, .int .i64 0, .int .i64 0, .int .i64 0] 34))) := chg_then (chg_then (chg_one _ _) (chg_one _ _)) (chg_one _ _)
  obtain ⟨s0, s1, s2, s3⟩ := cells4z HS.out
  obtain ⟨y0, y1, y2, y3⟩ := cells4z HY.out
  have HQ : Hid (∀ ww, Calls Tryd.prog 24 #[.agg #[.int .i64 a, .int .i64 b, .int .i64 c, .int .i64 d], .int .i64 0, .int .i64 a] ww fun e w' => e = .returned (.agg #[.int .i64 a, .int .i64 b, .int .i64 c, .int .i64 d]) ∧ Chg (fun _ => False) ww w') := fun ww => infront0 a b c d a ww
  go_enter Tryd.func18, Tryd.ntmps18
  go_wp2_with fail
  generalize ((w0.alloc (.cells #[.int .i64 a, .int .i64 b, .int .i64 c, .int .i64 d] 34)).alloc (.cells #[.int .i64 3, .int .u8 yb, .int .i64 yl, .int .i64 0] 24)).alloc (.cells #[.int .i64 0, .int .i64 0, .int .i64 0, .int .i64 0] 34) = W at *
  clear s0 s1 s2 s3 y0 y1 y2 y3
  refine wp_region_last (mk := fun u => #[_, _, _, _, _, _, _, _, _, _, _, _, _, _, _, u 15, u 16, u 17, u 18, u 19, u 20, u 21, u 22, _]) (F := fun slot vv ww => (look [(15, .val (.agg #[.int .i64 a, .int .i64 b, .int .i64 c, .int .i64 d])), (16, .val (.pointer (some ⟨w0.heap.size + 1, 3, none⟩))), (17, .val (.int .i64 0)), (18, .val (.pointer (some ⟨w0.heap.size + 1, 3, none⟩))), (19, .val (.int .i64 0)), (20, .val (.pointer (some ⟨w0.heap.size, 0, none⟩))), (21, .val (.int .i64 a)), (22, .val (.agg #[.int .i64 a, .int .i64 b, .int .i64 c, .int .i64 d]))] slot).holds vv ww) (fun _ => undef) rfl (by kernel_rfl) 8 _ rfl rfl (by kernel_rfl) ?_ (fun _ v w w' hc h => Fact.stays _ v w w' hc h) ?_ ?_
  · repeat (refine ⟨⟨_, rfl, fun _ _ => rfl⟩, ?_⟩)
    exact trivial
  · refine ⟨?_, ?_, ?_, ?_, ?_, ?_, ?_, ?_, trivial⟩
    · intro u w hc hd K hK -- 15
      clear hd
      obtain ⟨s0, s1, s2, s3⟩ := cells4z (blk_keep HS.out hc (fun f => f))
      obtain ⟨y0, y1, y2, y3⟩ := cells4z (blk_keep HY.out hc (fun f => f))
      clear hc HS HY HZ HC HQ
      go_simp
      exact hK.out (.agg #[.int .i64 a, .int .i64 b, .int .i64 c, .int .i64 d]) w (Chg.refl _ _) rfl
    · intro u w hc hd K hK -- 16
      clear hd
      go_simp
      exact hK.out (.pointer (some ⟨w0.heap.size + 1, 3, none⟩)) w (Chg.refl _ _) rfl
    · intro u w hc hd K hK -- 17
      have h16 : (Fact.val (.pointer (some ⟨w0.heap.size + 1, 3, none⟩))).holds (u 16) w := hd.get 1 (by kernel_rfl)
      simp only [Fact.holds] at h16
      clear hd
      simp only [h16] at hK
      obtain ⟨s0, s1, s2, s3⟩ := cells4z (blk_keep HS.out hc (fun f => f))
      obtain ⟨y0, y1, y2, y3⟩ := cells4z (blk_keep HY.out hc (fun f => f))
      clear hc HS HY HZ HC HQ
      go_simp
      exact hK.out (.int .i64 0) w (Chg.refl _ _) rfl
    · intro u w hc hd K hK -- 18
      clear hd
      go_simp
      exact hK.out (.pointer (some ⟨w0.heap.size + 1, 3, none⟩)) w (Chg.refl _ _) rfl
    · intro u w hc hd K hK -- 19
      have h18 : (Fact.val (.pointer (some ⟨w0.heap.size + 1, 3, none⟩))).holds (u 18) w := hd.get 3 (by kernel_rfl)
      simp only [Fact.holds] at h18
      clear hd
      simp only [h18] at hK
      obtain ⟨s0, s1, s2, s3⟩ := cells4z (blk_keep HS.out hc (fun f => f))
      obtain ⟨y0, y1, y2, y3⟩ := cells4z (blk_keep HY.out hc (fun f => f))
      clear hc HS HY HZ HC HQ
      go_simp
      exact hK.out (.int .i64 0) w (Chg.refl _ _) rfl
    · intro u w hc hd K hK -- 20
      have h19 : (Fact.val (.int .i64 0)).holds (u 19) w := hd.get 4 (by kernel_rfl)
      simp only [Fact.holds] at h19
      clear hd
      simp only [h19] at hK
      go_simp
      exact hK.out (.pointer (some ⟨w0.heap.size, 0, none⟩)) w (Chg.refl _ _) rfl
    · intro u w hc hd K hK -- 21
      have h20 : (Fact.val (.pointer (some ⟨w0.heap.size, 0, none⟩))).holds (u 20) w := hd.get 5 (by kernel_rfl)
      simp only [Fact.holds] at h20
      clear hd
      simp only [h20] at hK
      obtain ⟨s0, s1, s2, s3⟩ := cells4z (blk_keep HS.out hc (fun f => f))
      obtain ⟨y0, y1, y2, y3⟩ := cells4z (blk_keep HY.out hc (fun f => f))
      clear hc HS HY HZ HC HQ
      go_simp
      exact hK.out (.int .i64 a) w (Chg.refl _ _) rfl
    · intro u w hc hd K hK -- 22
      have h15 : (Fact.val (.agg #[.int .i64 a, .int .i64 b, .int .i64 c, .int .i64 d])).holds (u 15) w := hd.get 0 (by kernel_rfl)
      simp only [Fact.holds] at h15
      have h17 : (Fact.val (.int .i64 0)).holds (u 17) w := hd.get 2 (by kernel_rfl)
      simp only [Fact.holds] at h17
      have h21 : (Fact.val (.int .i64 a)).holds (u 21) w := hd.get 6 (by kernel_rfl)
      simp only [Fact.holds] at h21
      clear hd
      simp only [h15, h17, h21] at hK
      go_simp
      refine (HQ.out _).mono ?_
      rintro z wz ⟨rfl, cz⟩
      exact hK.out _ wz cz rfl
  · intro u w2 hc hA K hK
    have e22 : u 22 = .agg #[.int .i64 a, .int .i64 b, .int .i64 c, .int .i64 d] := hA.at 22 (by kernel_rfl)
    obtain ⟨⟨p0, g0⟩, ⟨p1, g1⟩, ⟨p2, g2⟩, ⟨p3, g3⟩, hblk, hchg⟩ := put4_of (blk_keep HZ.out hc (fun f => f)) (.int .i64 a) (.int .i64 b) (.int .i64 c) (.int .i64 d)
    have HX : Hid _ := cells4z hblk
    have HCX : Hid (Chg (fun _ => False) w0 _) := (chg_then HC.out hc).trans hchg (fun z e => .inr (by omega))
    clear hblk hchg
    clear hc hA HS HY HZ HC HQ
    go_simp
    refine hK.out _ _ ?_
    clear hK
    go_wp2
    obtain ⟨r0, r1, r2, r3⟩ := HX.out
    refine bodyPost_ret (v := .agg #[.int .i64 a, .int .i64 b, .int .i64 c, .int .i64 d]) (by simp [results, Tryd.results18, go_sem, r0, r1, r2, r3]) rfl ?_
    exact ⟨rfl, HCX.out⟩

set_option maxHeartbeats 1000000 in
set_option maxRecDepth 100000 in
theorem behind31 (a b c d yb yl : Int) (w0 : World) : Calls Tryd.prog 18 #[.agg #[.int .i64 a, .int .i64 b, .int .i64 c, .int .i64 d], .agg #[.int .i64 3, .int .u8 yb, .int .i64 yl, .int .i64 1]] w0 fun e w' => e = .returned (.agg #[.int .i64 b, .int .i64 a, .int .i64 c, .int .i64 d]) ∧ Chg (fun _ => False) w0 w' := by
  have HS : Hid ((((w0.alloc (.cells #[.int .i64 a, .int .i64 b, .int .i64 c, .int .i64 d] 34)).alloc (.cells #[.int .i64 3, .int .u8 yb, .int .i64 yl, .int .i64 1] 24)).alloc (.cells #[.int .i64 0, .int .i64 0, .int .i64 0, .int .i64 0] 34)).heap[w0.heap.size]? = some (.cells #[.int .i64 a, .int .i64 b, .int .i64 c, .int .i64 d] 34 (0, 0))) := (Below.heap_alloc _ _ _ (by simp; omega)).trans ((Below.heap_alloc _ _ _ (by simp)).trans (heap_alloc_last w0 _))
  have HY : Hid ((((w0.alloc (.cells #[.int .i64 a, .int .i64 b, .int .i64 c, .int .i64 d] 34)).alloc (.cells #[.int .i64 3, .int .u8 yb, .int .i64 yl, .int .i64 1] 24)).alloc (.cells #[.int .i64 0, .int .i64 0, .int .i64 0, .int .i64 0] 34)).heap[w0.heap.size + 1]? = some (.cells #[.int .i64 3, .int .u8 yb, .int .i64 yl, .int .i64 1] 24 (0, 0))) := by
    have := heap_alloc_last (w0.alloc (.cells #[.int .i64 a, .int .i64 b, .int .i64 c, .int .i64 d] 34)) (.cells #[.int .i64 3, .int .u8 yb, .int .i64 yl, .int .i64 1] 24)
    rw [World.size_alloc] at this
    exact (Below.heap_alloc _ _ _ (by simp)).trans this
  have HZ : Hid ((((w0.alloc (.cells #[.int .i64 a, .int .i64 b, .int .i64 c, .int .i64 d] 34)).alloc (.cells #[.int .i64 3, .int .u8 yb, .int .i64 yl, .int .i64 1] 24)).alloc (.cells #[.int .i64 0, .int .i64 0, .int .i64 0, .int .i64 0] 34)).heap[w0.heap.size + 1 + 1]? = some (.cells #[.int .i64 0, .int .i64 0, .int .i64 0, .int .i64 0] 34 (0, 0))) := by
    have := heap_alloc_last ((w0.alloc (.cells #[.int .i64 a, .int .i64 b, .int .i64 c, .int .i64 d] 34)).alloc (.cells #[.int .i64 3, .int .u8 yb, .int .i64 yl, .int .i64 1] 24)) (.cells #[.int .i64 0, .int .i64 0, .int .i64 0, .int .i64 0] 34)
    rw [World.size_alloc, World.size_alloc] at this
    exact this
  have HC : Hid (Chg (fun _ => False) w0 (((w0.alloc (.cells #[.int .i64 a, .int .i64 b, .int .i64 c, .int .i64 d] 34)).alloc (.cells #[.int .i64 3, .int .u8 yb, .int .i64 yl, .int .i64 1] 24)).alloc (.cells #[.int .i64 0, .int .i64 0, .int .i64 0, .int .i64 0] 34))) := chg_then (chg_then (chg_one _ _) (chg_one _ _)) (chg_one _ _)
  obtain ⟨s0, s1, s2, s3⟩ := cells4z HS.out
  obtain ⟨y0, y1, y2, y3⟩ := cells4z HY.out
  have HQ : Hid (∀ ww, Calls Tryd.prog 24 #[.agg #[.int .i64 a, .int .i64 b, .int .i64 c, .int .i64 d], .int .i64 1, .int .i64 b] ww fun e w' => e = .returned (.agg #[.int .i64 b, .int .i64 a, .int .i64 c, .int .i64 d]) ∧ Chg (fun _ => False) ww w') := fun ww => infront1 a b c d b ww
  go_enter Tryd.func18, Tryd.ntmps18
  go_wp2_with fail
  generalize ((w0.alloc (.cells #[.int .i64 a, .int .i64 b, .int .i64 c, .int .i64 d] 34)).alloc (.cells #[.int .i64 3, .int .u8 yb, .int .i64 yl, .int .i64 1] 24)).alloc (.cells #[.int .i64 0, .int .i64 0, .int .i64 0, .int .i64 0] 34) = W at *
  clear s0 s1 s2 s3 y0 y1 y2 y3
  refine wp_region_last (mk := fun u => #[_, _, _, _, _, _, _, _, _, _, _, _, _, _, _, u 15, u 16, u 17, u 18, u 19, u 20, u 21, u 22, _]) (F := fun slot vv ww => (look [(15, .val (.agg #[.int .i64 a, .int .i64 b, .int .i64 c, .int .i64 d])), (16, .val (.pointer (some ⟨w0.heap.size + 1, 3, none⟩))), (17, .val (.int .i64 1)), (18, .val (.pointer (some ⟨w0.heap.size + 1, 3, none⟩))), (19, .val (.int .i64 1)), (20, .val (.pointer (some ⟨w0.heap.size, 1, none⟩))), (21, .val (.int .i64 b)), (22, .val (.agg #[.int .i64 b, .int .i64 a, .int .i64 c, .int .i64 d]))] slot).holds vv ww) (fun _ => undef) rfl (by kernel_rfl) 8 _ rfl rfl (by kernel_rfl) ?_ (fun _ v w w' hc h => Fact.stays _ v w w' hc h) ?_ ?_
  · repeat (refine ⟨⟨_, rfl, fun _ _ => rfl⟩, ?_⟩)
    exact trivial
  · refine ⟨?_, ?_, ?_, ?_, ?_, ?_, ?_, ?_, trivial⟩
    · intro u w hc hd K hK -- 15
      clear hd
      obtain ⟨s0, s1, s2, s3⟩ := cells4z (blk_keep HS.out hc (fun f => f))
      obtain ⟨y0, y1, y2, y3⟩ := cells4z (blk_keep HY.out hc (fun f => f))
      clear hc HS HY HZ HC HQ
      go_simp
      exact hK.out (.agg #[.int .i64 a, .int .i64 b, .int .i64 c, .int .i64 d]) w (Chg.refl _ _) rfl
    · intro u w hc hd K hK -- 16
      clear hd
      go_simp
      exact hK.out (.pointer (some ⟨w0.heap.size + 1, 3, none⟩)) w (Chg.refl _ _) rfl
    · intro u w hc hd K hK -- 17
      have h16 : (Fact.val (.pointer (some ⟨w0.heap.size + 1, 3, none⟩))).holds (u 16) w := hd.get 1 (by kernel_rfl)
      simp only [Fact.holds] at h16
      clear hd
      simp only [h16] at hK
      obtain ⟨s0, s1, s2, s3⟩ := cells4z (blk_keep HS.out hc (fun f => f))
      obtain ⟨y0, y1, y2, y3⟩ := cells4z (blk_keep HY.out hc (fun f => f))
      clear hc HS HY HZ HC HQ
      go_simp
      exact hK.out (.int .i64 1) w (Chg.refl _ _) rfl
    · intro u w hc hd K hK -- 18
      clear hd
      go_simp
      exact hK.out (.pointer (some ⟨w0.heap.size + 1, 3, none⟩)) w (Chg.refl _ _) rfl
    · intro u w hc hd K hK -- 19
      have h18 : (Fact.val (.pointer (some ⟨w0.heap.size + 1, 3, none⟩))).holds (u 18) w := hd.get 3 (by kernel_rfl)
      simp only [Fact.holds] at h18
      clear hd
      simp only [h18] at hK
      obtain ⟨s0, s1, s2, s3⟩ := cells4z (blk_keep HS.out hc (fun f => f))
      obtain ⟨y0, y1, y2, y3⟩ := cells4z (blk_keep HY.out hc (fun f => f))
      clear hc HS HY HZ HC HQ
      go_simp
      exact hK.out (.int .i64 1) w (Chg.refl _ _) rfl
    · intro u w hc hd K hK -- 20
      have h19 : (Fact.val (.int .i64 1)).holds (u 19) w := hd.get 4 (by kernel_rfl)
      simp only [Fact.holds] at h19
      clear hd
      simp only [h19] at hK
      go_simp
      exact hK.out (.pointer (some ⟨w0.heap.size, 1, none⟩)) w (Chg.refl _ _) rfl
    · intro u w hc hd K hK -- 21
      have h20 : (Fact.val (.pointer (some ⟨w0.heap.size, 1, none⟩))).holds (u 20) w := hd.get 5 (by kernel_rfl)
      simp only [Fact.holds] at h20
      clear hd
      simp only [h20] at hK
      obtain ⟨s0, s1, s2, s3⟩ := cells4z (blk_keep HS.out hc (fun f => f))
      obtain ⟨y0, y1, y2, y3⟩ := cells4z (blk_keep HY.out hc (fun f => f))
      clear hc HS HY HZ HC HQ
      go_simp
      exact hK.out (.int .i64 b) w (Chg.refl _ _) rfl
    · intro u w hc hd K hK -- 22
      have h15 : (Fact.val (.agg #[.int .i64 a, .int .i64 b, .int .i64 c, .int .i64 d])).holds (u 15) w := hd.get 0 (by kernel_rfl)
      simp only [Fact.holds] at h15
      have h17 : (Fact.val (.int .i64 1)).holds (u 17) w := hd.get 2 (by kernel_rfl)
      simp only [Fact.holds] at h17
      have h21 : (Fact.val (.int .i64 b)).holds (u 21) w := hd.get 6 (by kernel_rfl)
      simp only [Fact.holds] at h21
      clear hd
      simp only [h15, h17, h21] at hK
      go_simp
      refine (HQ.out _).mono ?_
      rintro z wz ⟨rfl, cz⟩
      exact hK.out _ wz cz rfl
  · intro u w2 hc hA K hK
    have e22 : u 22 = .agg #[.int .i64 b, .int .i64 a, .int .i64 c, .int .i64 d] := hA.at 22 (by kernel_rfl)
    obtain ⟨⟨p0, g0⟩, ⟨p1, g1⟩, ⟨p2, g2⟩, ⟨p3, g3⟩, hblk, hchg⟩ := put4_of (blk_keep HZ.out hc (fun f => f)) (.int .i64 b) (.int .i64 a) (.int .i64 c) (.int .i64 d)
    have HX : Hid _ := cells4z hblk
    have HCX : Hid (Chg (fun _ => False) w0 _) := (chg_then HC.out hc).trans hchg (fun z e => .inr (by omega))
    clear hblk hchg
    clear hc hA HS HY HZ HC HQ
    go_simp
    refine hK.out _ _ ?_
    clear hK
    go_wp2
    obtain ⟨r0, r1, r2, r3⟩ := HX.out
    refine bodyPost_ret (v := .agg #[.int .i64 b, .int .i64 a, .int .i64 c, .int .i64 d]) (by simp [results, Tryd.results18, go_sem, r0, r1, r2, r3]) rfl ?_
    exact ⟨rfl, HCX.out⟩

set_option maxHeartbeats 1000000 in
set_option maxRecDepth 100000 in
theorem behind32 (a b c d yb yl : Int) (w0 : World) : Calls Tryd.prog 18 #[.agg #[.int .i64 a, .int .i64 b, .int .i64 c, .int .i64 d], .agg #[.int .i64 3, .int .u8 yb, .int .i64 yl, .int .i64 2]] w0 fun e w' => e = .returned (.agg #[.int .i64 c, .int .i64 a, .int .i64 b, .int .i64 d]) ∧ Chg (fun _ => False) w0 w' := by
  have HS : Hid ((((w0.alloc (.cells #[.int .i64 a, .int .i64 b, .int .i64 c, .int .i64 d] 34)).alloc (.cells #[.int .i64 3, .int .u8 yb, .int .i64 yl, .int .i64 2] 24)).alloc (.cells #[.int .i64 0, .int .i64 0, .int .i64 0, .int .i64 0] 34)).heap[w0.heap.size]? = some (.cells #[.int .i64 a, .int .i64 b, .int .i64 c, .int .i64 d] 34 (0, 0))) := (Below.heap_alloc _ _ _ (by simp; omega)).trans ((Below.heap_alloc _ _ _ (by simp)).trans (heap_alloc_last w0 _))
  have HY : Hid ((((w0.alloc (.cells #[.int .i64 a, .int .i64 b, .int .i64 c, .int .i64 d] 34)).alloc (.cells #[.int .i64 3, .int .u8 yb, .int .i64 yl, .int .i64 2] 24)).alloc (.cells #[.int .i64 0, .int .i64 0, .int .i64 0, .int .i64 0] 34)).heap[w0.heap.size + 1]? = some (.cells #[.int .i64 3, .int .u8 yb, .int .i64 yl, .int .i64 2] 24 (0, 0))) := by
    have := heap_alloc_last (w0.alloc (.cells #[.int .i64 a, .int .i64 b, .int .i64 c, .int .i64 d] 34)) (.cells #[.int .i64 3, .int .u8 yb, .int .i64 yl, .int .i64 2] 24)
    rw [World.size_alloc] at this
    exact (Below.heap_alloc _ _ _ (by simp)).trans this
  have HZ : Hid ((((w0.alloc (.cells #[.int .i64 a, .int .i64 b, .int .i64 c, .int .i64 d] 34)).alloc (.cells #[.int .i64 3, .int .u8 yb, .int .i64 yl, .int .i64 2] 24)).alloc (.cells #[.int .i64 0, .int .i64 0, .int .i64 0, .int .i64 0] 34)).heap[w0.heap.size + 1 + 1]? = some (.cells #[.int .i64 0, .int .i64 0, .int .i64 0, .int .i64 0] 34 (0, 0))) := by
    have := heap_alloc_last ((w0.alloc (.cells #[.int .i64 a, .int .i64 b, .int .i64 c, .int .i64 d] 34)).alloc (.cells #[.int .i64 3, .int .u8 yb, .int .i64 yl, .int .i64 2] 24)) (.cells #[.int .i64 0, .int .i64 0, .int .i64 0, .int .i64 0] 34)
    rw [World.size_alloc, World.size_alloc] at this
    exact this
  have HC : Hid (Chg (fun _ => False) w0 (((w0.alloc (.cells #[.int .i64 a, .int .i64 b, .int .i64 c, .int .i64 d] 34)).alloc (.cells #[.int .i64 3, .int .u8 yb, .int .i64 yl, .int .i64 2] 24)).alloc (.cells #[.int .i64 0, .int .i64 0, .int .i64 0, .int .i64 0] 34))) := chg_then (chg_then (chg_one _ _) (chg_one _ _)) (chg_one _ _)
  obtain ⟨s0, s1, s2, s3⟩ := cells4z HS.out
  obtain ⟨y0, y1, y2, y3⟩ := cells4z HY.out
  have HQ : Hid (∀ ww, Calls Tryd.prog 24 #[.agg #[.int .i64 a, .int .i64 b, .int .i64 c, .int .i64 d], .int .i64 2, .int .i64 c] ww fun e w' => e = .returned (.agg #[.int .i64 c, .int .i64 a, .int .i64 b, .int .i64 d]) ∧ Chg (fun _ => False) ww w') := fun ww => infront2 a b c d c ww
  go_enter Tryd.func18, Tryd.ntmps18
  go_wp2_with fail
  generalize ((w0.alloc (.cells #[.int .i64 a, .int .i64 b, .int .i64 c, .int .i64 d] 34)).alloc (.cells #[.int .i64 3, .int .u8 yb, .int .i64 yl, .int .i64 2] 24)).alloc (.cells #[.int .i64 0, .int .i64 0, .int .i64 0, .int .i64 0] 34) = W at *
  clear s0 s1 s2 s3 y0 y1 y2 y3
  refine wp_region_last (mk := fun u => #[_, _, _, _, _, _, _, _, _, _, _, _, _, _, _, u 15, u 16, u 17, u 18, u 19, u 20, u 21, u 22, _]) (F := fun slot vv ww => (look [(15, .val (.agg #[.int .i64 a, .int .i64 b, .int .i64 c, .int .i64 d])), (16, .val (.pointer (some ⟨w0.heap.size + 1, 3, none⟩))), (17, .val (.int .i64 2)), (18, .val (.pointer (some ⟨w0.heap.size + 1, 3, none⟩))), (19, .val (.int .i64 2)), (20, .val (.pointer (some ⟨w0.heap.size, 2, none⟩))), (21, .val (.int .i64 c)), (22, .val (.agg #[.int .i64 c, .int .i64 a, .int .i64 b, .int .i64 d]))] slot).holds vv ww) (fun _ => undef) rfl (by kernel_rfl) 8 _ rfl rfl (by kernel_rfl) ?_ (fun _ v w w' hc h => Fact.stays _ v w w' hc h) ?_ ?_
  · repeat (refine ⟨⟨_, rfl, fun _ _ => rfl⟩, ?_⟩)
    exact trivial
  · refine ⟨?_, ?_, ?_, ?_, ?_, ?_, ?_, ?_, trivial⟩
    · intro u w hc hd K hK -- 15
      clear hd
      obtain ⟨s0, s1, s2, s3⟩ := cells4z (blk_keep HS.out hc (fun f => f))
      obtain ⟨y0, y1, y2, y3⟩ := cells4z (blk_keep HY.out hc (fun f => f))
      clear hc HS HY HZ HC HQ
      go_simp
      exact hK.out (.agg #[.int .i64 a, .int .i64 b, .int .i64 c, .int .i64 d]) w (Chg.refl _ _) rfl
    · intro u w hc hd K hK -- 16
      clear hd
      go_simp
      exact hK.out (.pointer (some ⟨w0.heap.size + 1, 3, none⟩)) w (Chg.refl _ _) rfl
    · intro u w hc hd K hK -- 17
      have h16 : (Fact.val (.pointer (some ⟨w0.heap.size + 1, 3, none⟩))).holds (u 16) w := hd.get 1 (by kernel_rfl)
      simp only [Fact.holds] at h16
      clear hd
      simp only [h16] at hK
      obtain ⟨s0, s1, s2, s3⟩ := cells4z (blk_keep HS.out hc (fun f => f))
      obtain ⟨y0, y1, y2, y3⟩ := cells4z (blk_keep HY.out hc (fun f => f))
      clear hc HS HY HZ HC HQ
      go_simp
      exact hK.out (.int .i64 2) w (Chg.refl _ _) rfl
    · intro u w hc hd K hK -- 18
      clear hd
      go_simp
      exact hK.out (.pointer (some ⟨w0.heap.size + 1, 3, none⟩)) w (Chg.refl _ _) rfl
    · intro u w hc hd K hK -- 19
      have h18 : (Fact.val (.pointer (some ⟨w0.heap.size + 1, 3, none⟩))).holds (u 18) w := hd.get 3 (by kernel_rfl)
      simp only [Fact.holds] at h18
      clear hd
      simp only [h18] at hK
      obtain ⟨s0, s1, s2, s3⟩ := cells4z (blk_keep HS.out hc (fun f => f))
      obtain ⟨y0, y1, y2, y3⟩ := cells4z (blk_keep HY.out hc (fun f => f))
      clear hc HS HY HZ HC HQ
      go_simp
      exact hK.out (.int .i64 2) w (Chg.refl _ _) rfl
    · intro u w hc hd K hK -- 20
      have h19 : (Fact.val (.int .i64 2)).holds (u 19) w := hd.get 4 (by kernel_rfl)
      simp only [Fact.holds] at h19
      clear hd
      simp only [h19] at hK
      go_simp
      exact hK.out (.pointer (some ⟨w0.heap.size, 2, none⟩)) w (Chg.refl _ _) rfl
    · intro u w hc hd K hK -- 21
      have h20 : (Fact.val (.pointer (some ⟨w0.heap.size, 2, none⟩))).holds (u 20) w := hd.get 5 (by kernel_rfl)
      simp only [Fact.holds] at h20
      clear hd
      simp only [h20] at hK
      obtain ⟨s0, s1, s2, s3⟩ := cells4z (blk_keep HS.out hc (fun f => f))
      obtain ⟨y0, y1, y2, y3⟩ := cells4z (blk_keep HY.out hc (fun f => f))
      clear hc HS HY HZ HC HQ
      go_simp
      exact hK.out (.int .i64 c) w (Chg.refl _ _) rfl
    · intro u w hc hd K hK -- 22
      have h15 : (Fact.val (.agg #[.int .i64 a, .int .i64 b, .int .i64 c, .int .i64 d])).holds (u 15) w := hd.get 0 (by kernel_rfl)
      simp only [Fact.holds] at h15
      have h17 : (Fact.val (.int .i64 2)).holds (u 17) w := hd.get 2 (by kernel_rfl)
      simp only [Fact.holds] at h17
      have h21 : (Fact.val (.int .i64 c)).holds (u 21) w := hd.get 6 (by kernel_rfl)
      simp only [Fact.holds] at h21
      clear hd
      simp only [h15, h17, h21] at hK
      go_simp
      refine (HQ.out _).mono ?_
      rintro z wz ⟨rfl, cz⟩
      exact hK.out _ wz cz rfl
  · intro u w2 hc hA K hK
    have e22 : u 22 = .agg #[.int .i64 c, .int .i64 a, .int .i64 b, .int .i64 d] := hA.at 22 (by kernel_rfl)
    obtain ⟨⟨p0, g0⟩, ⟨p1, g1⟩, ⟨p2, g2⟩, ⟨p3, g3⟩, hblk, hchg⟩ := put4_of (blk_keep HZ.out hc (fun f => f)) (.int .i64 c) (.int .i64 a) (.int .i64 b) (.int .i64 d)
    have HX : Hid _ := cells4z hblk
    have HCX : Hid (Chg (fun _ => False) w0 _) := (chg_then HC.out hc).trans hchg (fun z e => .inr (by omega))
    clear hblk hchg
    clear hc hA HS HY HZ HC HQ
    go_simp
    refine hK.out _ _ ?_
    clear hK
    go_wp2
    obtain ⟨r0, r1, r2, r3⟩ := HX.out
    refine bodyPost_ret (v := .agg #[.int .i64 c, .int .i64 a, .int .i64 b, .int .i64 d]) (by simp [results, Tryd.results18, go_sem, r0, r1, r2, r3]) rfl ?_
    exact ⟨rfl, HCX.out⟩

set_option maxHeartbeats 1000000 in
set_option maxRecDepth 100000 in
theorem behind33 (a b c d yb yl : Int) (w0 : World) : Calls Tryd.prog 18 #[.agg #[.int .i64 a, .int .i64 b, .int .i64 c, .int .i64 d], .agg #[.int .i64 3, .int .u8 yb, .int .i64 yl, .int .i64 3]] w0 fun e w' => e = .returned (.agg #[.int .i64 d, .int .i64 a, .int .i64 b, .int .i64 c]) ∧ Chg (fun _ => False) w0 w' := by
  have HS : Hid ((((w0.alloc (.cells #[.int .i64 a, .int .i64 b, .int .i64 c, .int .i64 d] 34)).alloc (.cells #[.int .i64 3, .int .u8 yb, .int .i64 yl, .int .i64 3] 24)).alloc (.cells #[.int .i64 0, .int .i64 0, .int .i64 0, .int .i64 0] 34)).heap[w0.heap.size]? = some (.cells #[.int .i64 a, .int .i64 b, .int .i64 c, .int .i64 d] 34 (0, 0))) := (Below.heap_alloc _ _ _ (by simp; omega)).trans ((Below.heap_alloc _ _ _ (by simp)).trans (heap_alloc_last w0 _))
  have HY : Hid ((((w0.alloc (.cells #[.int .i64 a, .int .i64 b, .int .i64 c, .int .i64 d] 34)).alloc (.cells #[.int .i64 3, .int .u8 yb, .int .i64 yl, .int .i64 3] 24)).alloc (.cells #[.int .i64 0, .int .i64 0, .int .i64 0, .int .i64 0] 34)).heap[w0.heap.size + 1]? = some (.cells #[.int .i64 3, .int .u8 yb, .int .i64 yl, .int .i64 3] 24 (0, 0))) := by
    have := heap_alloc_last (w0.alloc (.cells #[.int .i64 a, .int .i64 b, .int .i64 c, .int .i64 d] 34)) (.cells #[.int .i64 3, .int .u8 yb, .int .i64 yl, .int .i64 3] 24)
    rw [World.size_alloc] at this
    exact (Below.heap_alloc _ _ _ (by simp)).trans this
  have HZ : Hid ((((w0.alloc (.cells #[.int .i64 a, .int .i64 b, .int .i64 c, .int .i64 d] 34)).alloc (.cells #[.int .i64 3, .int .u8 yb, .int .i64 yl, .int .i64 3] 24)).alloc (.cells #[.int .i64 0, .int .i64 0, .int .i64 0, .int .i64 0] 34)).heap[w0.heap.size + 1 + 1]? = some (.cells #[.int .i64 0, .int .i64 0, .int .i64 0, .int .i64 0] 34 (0, 0))) := by
    have := heap_alloc_last ((w0.alloc (.cells #[.int .i64 a, .int .i64 b, .int .i64 c, .int .i64 d] 34)).alloc (.cells #[.int .i64 3, .int .u8 yb, .int .i64 yl, .int .i64 3] 24)) (.cells #[.int .i64 0, .int .i64 0, .int .i64 0, .int .i64 0] 34)
    rw [World.size_alloc, World.size_alloc] at this
    exact this
  have HC : Hid (Chg (fun _ => False) w0 (((w0.alloc (.cells #[.int .i64 a, .int .i64 b, .int .i64 c, .int .i64 d] 34)).alloc (.cells #[.int .i64 3, .int .u8 yb, .int .i64 yl, .int .i64 3] 24)).alloc (.cells #[.int .i64 0, .int .i64 0, .int .i64 0, .int .i64 0] 34))) := chg_then (chg_then (chg_one _ _) (chg_one _ _)) (chg_one _ _)
  obtain ⟨s0, s1, s2, s3⟩ := cells4z HS.out
  obtain ⟨y0, y1, y2, y3⟩ := cells4z HY.out
  have HQ : Hid (∀ ww, Calls Tryd.prog 24 #[.agg #[.int .i64 a, .int .i64 b, .int .i64 c, .int .i64 d], .int .i64 3, .int .i64 d] ww fun e w' => e = .returned (.agg #[.int .i64 d, .int .i64 a, .int .i64 b, .int .i64 c]) ∧ Chg (fun _ => False) ww w') := fun ww => infront3 a b c d d ww
  go_enter Tryd.func18, Tryd.ntmps18
  go_wp2_with fail
  generalize ((w0.alloc (.cells #[.int .i64 a, .int .i64 b, .int .i64 c, .int .i64 d] 34)).alloc (.cells #[.int .i64 3, .int .u8 yb, .int .i64 yl, .int .i64 3] 24)).alloc (.cells #[.int .i64 0, .int .i64 0, .int .i64 0, .int .i64 0] 34) = W at *
  clear s0 s1 s2 s3 y0 y1 y2 y3
  refine wp_region_last (mk := fun u => #[_, _, _, _, _, _, _, _, _, _, _, _, _, _, _, u 15, u 16, u 17, u 18, u 19, u 20, u 21, u 22, _]) (F := fun slot vv ww => (look [(15, .val (.agg #[.int .i64 a, .int .i64 b, .int .i64 c, .int .i64 d])), (16, .val (.pointer (some ⟨w0.heap.size + 1, 3, none⟩))), (17, .val (.int .i64 3)), (18, .val (.pointer (some ⟨w0.heap.size + 1, 3, none⟩))), (19, .val (.int .i64 3)), (20, .val (.pointer (some ⟨w0.heap.size, 3, none⟩))), (21, .val (.int .i64 d)), (22, .val (.agg #[.int .i64 d, .int .i64 a, .int .i64 b, .int .i64 c]))] slot).holds vv ww) (fun _ => undef) rfl (by kernel_rfl) 8 _ rfl rfl (by kernel_rfl) ?_ (fun _ v w w' hc h => Fact.stays _ v w w' hc h) ?_ ?_
  · repeat (refine ⟨⟨_, rfl, fun _ _ => rfl⟩, ?_⟩)
    exact trivial
  · refine ⟨?_, ?_, ?_, ?_, ?_, ?_, ?_, ?_, trivial⟩
    · intro u w hc hd K hK -- 15
      clear hd
      obtain ⟨s0, s1, s2, s3⟩ := cells4z (blk_keep HS.out hc (fun f => f))
      obtain ⟨y0, y1, y2, y3⟩ := cells4z (blk_keep HY.out hc (fun f => f))
      clear hc HS HY HZ HC HQ
      go_simp
      exact hK.out (.agg #[.int .i64 a, .int .i64 b, .int .i64 c, .int .i64 d]) w (Chg.refl _ _) rfl
    · intro u w hc hd K hK -- 16
      clear hd
      go_simp
      exact hK.out (.pointer (some ⟨w0.heap.size + 1, 3, none⟩)) w (Chg.refl _ _) rfl
    · intro u w hc hd K hK -- 17
      have h16 : (Fact.val (.pointer (some ⟨w0.heap.size + 1, 3, none⟩))).holds (u 16) w := hd.get 1 (by kernel_rfl)
      simp only [Fact.holds] at h16
      clear hd
      simp only [h16] at hK
      obtain ⟨s0, s1, s2, s3⟩ := cells4z (blk_keep HS.out hc (fun f => f))
      obtain ⟨y0, y1, y2, y3⟩ := cells4z (blk_keep HY.out hc (fun f => f))
      clear hc HS HY HZ HC HQ
      go_simp
      exact hK.out (.int .i64 3) w (Chg.refl _ _) rfl
    · intro u w hc hd K hK -- 18
      clear hd
      go_simp
      exact hK.out (.pointer (some ⟨w0.heap.size + 1, 3, none⟩)) w (Chg.refl _ _) rfl
    · intro u w hc hd K hK -- 19
      have h18 : (Fact.val (.pointer (some ⟨w0.heap.size + 1, 3, none⟩))).holds (u 18) w := hd.get 3 (by kernel_rfl)
      simp only [Fact.holds] at h18
      clear hd
      simp only [h18] at hK
      obtain ⟨s0, s1, s2, s3⟩ := cells4z (blk_keep HS.out hc (fun f => f))
      obtain ⟨y0, y1, y2, y3⟩ := cells4z (blk_keep HY.out hc (fun f => f))
      clear hc HS HY HZ HC HQ
      go_simp
      exact hK.out (.int .i64 3) w (Chg.refl _ _) rfl
    · intro u w hc hd K hK -- 20
      have h19 : (Fact.val (.int .i64 3)).holds (u 19) w := hd.get 4 (by kernel_rfl)
      simp only [Fact.holds] at h19
      clear hd
      simp only [h19] at hK
      go_simp
      exact hK.out (.pointer (some ⟨w0.heap.size, 3, none⟩)) w (Chg.refl _ _) rfl
    · intro u w hc hd K hK -- 21
      have h20 : (Fact.val (.pointer (some ⟨w0.heap.size, 3, none⟩))).holds (u 20) w := hd.get 5 (by kernel_rfl)
      simp only [Fact.holds] at h20
      clear hd
      simp only [h20] at hK
      obtain ⟨s0, s1, s2, s3⟩ := cells4z (blk_keep HS.out hc (fun f => f))
      obtain ⟨y0, y1, y2, y3⟩ := cells4z (blk_keep HY.out hc (fun f => f))
      clear hc HS HY HZ HC HQ
      go_simp
      exact hK.out (.int .i64 d) w (Chg.refl _ _) rfl
    · intro u w hc hd K hK -- 22
      have h15 : (Fact.val (.agg #[.int .i64 a, .int .i64 b, .int .i64 c, .int .i64 d])).holds (u 15) w := hd.get 0 (by kernel_rfl)
      simp only [Fact.holds] at h15
      have h17 : (Fact.val (.int .i64 3)).holds (u 17) w := hd.get 2 (by kernel_rfl)
      simp only [Fact.holds] at h17
      have h21 : (Fact.val (.int .i64 d)).holds (u 21) w := hd.get 6 (by kernel_rfl)
      simp only [Fact.holds] at h21
      clear hd
      simp only [h15, h17, h21] at hK
      go_simp
      refine (HQ.out _).mono ?_
      rintro z wz ⟨rfl, cz⟩
      exact hK.out _ wz cz rfl
  · intro u w2 hc hA K hK
    have e22 : u 22 = .agg #[.int .i64 d, .int .i64 a, .int .i64 b, .int .i64 c] := hA.at 22 (by kernel_rfl)
    obtain ⟨⟨p0, g0⟩, ⟨p1, g1⟩, ⟨p2, g2⟩, ⟨p3, g3⟩, hblk, hchg⟩ := put4_of (blk_keep HZ.out hc (fun f => f)) (.int .i64 d) (.int .i64 a) (.int .i64 b) (.int .i64 c)
    have HX : Hid _ := cells4z hblk
    have HCX : Hid (Chg (fun _ => False) w0 _) := (chg_then HC.out hc).trans hchg (fun z e => .inr (by omega))
    clear hblk hchg
    clear hc hA HS HY HZ HC HQ
    go_simp
    refine hK.out _ _ ?_
    clear hK
    go_wp2
    obtain ⟨r0, r1, r2, r3⟩ := HX.out
    refine bodyPost_ret (v := .agg #[.int .i64 d, .int .i64 a, .int .i64 b, .int .i64 c]) (by simp [results, Tryd.results18, go_sem, r0, r1, r2, r3]) rfl ?_
    exact ⟨rfl, HCX.out⟩

end Go.Proofs.YtoeimahlielklaaDoor
