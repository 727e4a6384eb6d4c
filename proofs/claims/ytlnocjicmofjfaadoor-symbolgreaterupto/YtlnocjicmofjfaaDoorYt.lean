/- The document's Apply; of no statement by itself. -/
import Derived.Test.YtlnocjicmofjfaaDoorYw
namespace Go.Proofs.YtlnocjicmofjfaaDoor
open Go.RowKit
open St12 Sy13
set_option linter.unusedVariables false
set_option linter.unusedSimpArgs false

set_option maxHeartbeats 4000000 in
set_option maxRecDepth 100000 in
theorem rapply_any (B r : Nat) (v : Value) (n : Nat) (bs : List Nat) (sn a b c d k yb yl yd : Int) (hs : (⟨sn, a, b, c, d⟩ : Stt).I) (hy : (⟨k, yb, yl, yd⟩ : Sym).I) (w0 : World) (h : Rw w0 B r v n bs) (hB : B ≤ w0.heap.size) (hn : n ≤ 4294967295) (hl : bs.length + 273 ≤ 140737488355328) : Calls Tryd.prog 22 #[.pointer (some ⟨r, 0, none⟩), .agg #[.int .i64 sn, .int .i64 a, .int .i64 b, .int .i64 c, .int .i64 d], .agg #[.int .i64 k, .int .u8 yb, .int .i64 yl, .int .i64 yd]] w0 fun e w' => ∃ ov v', e = .returned (.tuple #[ov, stv (app n bs ⟨sn, a, b, c, d⟩ ⟨k, yb, yl, yd⟩).2.1, .int .i64 (app n bs ⟨sn, a, b, c, d⟩ ⟨k, yb, yl, yd⟩).2.2]) ∧ Made Rw B w0.heap.size r n (bs ++ (app n bs ⟨sn, a, b, c, d⟩ ⟨k, yb, yl, yd⟩).1) (app n bs ⟨sn, a, b, c, d⟩ ⟨k, yb, yl, yd⟩).1 ov v' w' ∧ Chg (Foot r v) w0 w' ∧ Moved w0 v v' := by
  have HS : Hid ((((w0.alloc (.cells #[.int .i64 sn, .int .i64 a, .int .i64 b, .int .i64 c, .int .i64 d] 52)).alloc (.cells #[.int .i64 k, .int .u8 yb, .int .i64 yl, .int .i64 yd] 33)).alloc (.cells #[.int .i64 0, .int .i64 0, .int .i64 0, .int .i64 0, .int .i64 0] 52)).heap[w0.heap.size]? = some (.cells #[.int .i64 sn, .int .i64 a, .int .i64 b, .int .i64 c, .int .i64 d] 52 (0, 0))) := (Below.heap_alloc _ _ _ (by simp; omega)).trans ((Below.heap_alloc _ _ _ (by simp)).trans (heap_alloc_last w0 _))
  have HY : Hid ((((w0.alloc (.cells #[.int .i64 sn, .int .i64 a, .int .i64 b, .int .i64 c, .int .i64 d] 52)).alloc (.cells #[.int .i64 k, .int .u8 yb, .int .i64 yl, .int .i64 yd] 33)).alloc (.cells #[.int .i64 0, .int .i64 0, .int .i64 0, .int .i64 0, .int .i64 0] 52)).heap[w0.heap.size + 1]? = some (.cells #[.int .i64 k, .int .u8 yb, .int .i64 yl, .int .i64 yd] 33 (0, 0))) := by
    have := heap_alloc_last (w0.alloc (.cells #[.int .i64 sn, .int .i64 a, .int .i64 b, .int .i64 c, .int .i64 d] 52)) (.cells #[.int .i64 k, .int .u8 yb, .int .i64 yl, .int .i64 yd] 33)
    rw [World.size_alloc] at this
    exact (Below.heap_alloc _ _ _ (by simp)).trans this
  have HZ : Hid ((((w0.alloc (.cells #[.int .i64 sn, .int .i64 a, .int .i64 b, .int .i64 c, .int .i64 d] 52)).alloc (.cells #[.int .i64 k, .int .u8 yb, .int .i64 yl, .int .i64 yd] 33)).alloc (.cells #[.int .i64 0, .int .i64 0, .int .i64 0, .int .i64 0, .int .i64 0] 52)).heap[w0.heap.size + 1 + 1]? = some (.cells #[.int .i64 0, .int .i64 0, .int .i64 0, .int .i64 0, .int .i64 0] 52 (0, 0))) := by
    have := heap_alloc_last ((w0.alloc (.cells #[.int .i64 sn, .int .i64 a, .int .i64 b, .int .i64 c, .int .i64 d] 52)).alloc (.cells #[.int .i64 k, .int .u8 yb, .int .i64 yl, .int .i64 yd] 33)) (.cells #[.int .i64 0, .int .i64 0, .int .i64 0, .int .i64 0, .int .i64 0] 52)
    rw [World.size_alloc, World.size_alloc] at this
    exact this
  have HC : Hid (Chg (fun _ => False) w0 (((w0.alloc (.cells #[.int .i64 sn, .int .i64 a, .int .i64 b, .int .i64 c, .int .i64 d] 52)).alloc (.cells #[.int .i64 k, .int .u8 yb, .int .i64 yl, .int .i64 yd] 33)).alloc (.cells #[.int .i64 0, .int .i64 0, .int .i64 0, .int .i64 0, .int .i64 0] 52))) := chg_then (chg_then (chg_one _ _) (chg_one _ _)) (chg_one _ _)
  obtain ⟨t, er, hx⟩ : ∃ t er, nxt ⟨sn, a, b, c, d⟩ ⟨k, yb, yl, yd⟩ = (t, er) := ⟨_, _, rfl⟩
  have HN : Hid (∀ w', Calls Tryd.prog 45 #[.agg #[.int .i64 sn, .int .i64 a, .int .i64 b, .int .i64 c, .int .i64 d], .agg #[.int .i64 k, .int .u8 yb, .int .i64 yl, .int .i64 yd]] w' fun e w'' => e = .returned (.tuple #[.agg #[.int .i64 t.n, .int .i64 t.a, .int .i64 t.b, .int .i64 t.c, .int .i64 t.d], .int .i64 er]) ∧ Chg (fun _ => False) w' w'') := fun w' => by
    have := rnext_any sn a b c d k yb yl yd hs hy w'
    rw [hx] at this
    exact this
  have HX : Hid (nxt ⟨sn, a, b, c, d⟩ ⟨k, yb, yl, yd⟩ = (t, er)) := hx
  have HRW : Hid (Rw w0 B r v n bs) := h
  obtain ⟨s0, s1, s2, s3, s4⟩ := cells5 HS.out
  obtain ⟨y0, y1, y2, y3⟩ := cells4y HY.out
  clear hx h
  go_enter Tryd.func22, Tryd.ntmps22
  go_wp2_with fail
  generalize ((w0.alloc (.cells #[.int .i64 sn, .int .i64 a, .int .i64 b, .int .i64 c, .int .i64 d] 52)).alloc (.cells #[.int .i64 k, .int .u8 yb, .int .i64 yl, .int .i64 yd] 33)).alloc (.cells #[.int .i64 0, .int .i64 0, .int .i64 0, .int .i64 0, .int .i64 0] 52) = W at *
  refine (HN.out _).mono ?_
  rintro z w1 ⟨rfl, c1⟩
  have cN := chg_one w1 (.cells #[.int .i64 t.n, .int .i64 t.a, .int .i64 t.b, .int .i64 t.c, .int .i64 t.d] 52)
  have hNN := heap_alloc_last w1 (.cells #[.int .i64 t.n, .int .i64 t.a, .int .i64 t.b, .int .i64 t.c, .int .i64 t.d] 52)
  have HS1 : Hid ((w1.alloc (.cells #[.int .i64 t.n, .int .i64 t.a, .int .i64 t.b, .int .i64 t.c, .int .i64 t.d] 52)).heap[w0.heap.size]? = some (.cells #[.int .i64 sn, .int .i64 a, .int .i64 b, .int .i64 c, .int .i64 d] 52 (0, 0))) := blk_keep (blk_keep HS.out c1 (fun f => f)) cN (fun f => f)
  have HY1 : Hid ((w1.alloc (.cells #[.int .i64 t.n, .int .i64 t.a, .int .i64 t.b, .int .i64 t.c, .int .i64 t.d] 52)).heap[w0.heap.size + 1]? = some (.cells #[.int .i64 k, .int .u8 yb, .int .i64 yl, .int .i64 yd] 33 (0, 0))) := blk_keep (blk_keep HY.out c1 (fun f => f)) cN (fun f => f)
  have HZ1 : Hid ((w1.alloc (.cells #[.int .i64 t.n, .int .i64 t.a, .int .i64 t.b, .int .i64 t.c, .int .i64 t.d] 52)).heap[w0.heap.size + 1 + 1]? = some (.cells #[.int .i64 0, .int .i64 0, .int .i64 0, .int .i64 0, .int .i64 0] 52 (0, 0))) := blk_keep (blk_keep HZ.out c1 (fun f => f)) cN (fun f => f)
  have HC1 : Hid (Chg (fun _ => False) w0 (w1.alloc (.cells #[.int .i64 t.n, .int .i64 t.a, .int .i64 t.b, .int .i64 t.c, .int .i64 t.d] 52))) := chg_then (chg_then HC.out c1) cN
  have HNN : Hid ((w1.alloc (.cells #[.int .i64 t.n, .int .i64 t.a, .int .i64 t.b, .int .i64 t.c, .int .i64 t.d] 52)).heap[w1.heap.size]? = some (.cells #[.int .i64 t.n, .int .i64 t.a, .int .i64 t.b, .int .i64 t.c, .int .i64 t.d] 52 (0, 0))) := hNN
  have HG : Hid (w0.heap.size + 1 + 1 < w1.heap.size) := lt_of_blk (blk_keep HZ.out c1 (fun f => f))
  clear c1 cN hNN HN HS HY HZ HC s0 s1 s2 s3 s4 y0 y1 y2 y3
  by_cases he : er = 0
  rotate_left
  · have e0 : (er == 0) = false := by rw [beq_eq_false_iff_ne]; exact he
    have e0' : (er != 0) = true := by simp [he]
    have e0'' : decide (er = 0) = false := decide_eq_false he
    have HAP : Hid ((app n bs ⟨sn, a, b, c, d⟩ ⟨k, yb, yl, yd⟩) = ([], zero, er)) := by
      show _ = _
      unfold app
      rw [HX.out, if_pos he]
    obtain ⟨⟨p0, f0⟩, ⟨p1, f1⟩, ⟨p2, f2⟩, ⟨p3, f3⟩, ⟨p4, f4⟩, hblk, hchg⟩ := put5_of HZ1.out (.int .i64 0) (.int .i64 0) (.int .i64 0) (.int .i64 0) (.int .i64 0)
    have HE : Hid _ := cells5 hblk
    have HCE : Hid (Chg (fun _ => False) w0 _) := HC1.out.trans hchg (fun z e => .inr (by omega))
    clear hblk hchg he HS1 HY1 HZ1 HC1 HNN
    go_upto_region 3 with fail
    generalize w1.alloc (.cells #[.int .i64 t.n, .int .i64 t.a, .int .i64 t.b, .int .i64 t.c, .int .i64 t.d] 52) = W at *
    go_wp2
    obtain ⟨q0, q1, q2, q3, q4⟩ := HE.out
    refine bodyPost_ret (v := .tuple #[.slice none 0 0, .agg #[.int .i64 0, .int .i64 0, .int .i64 0, .int .i64 0, .int .i64 0], .int .i64 er]) (by simp [results, Tryd.results22, go_sem, q0, q1, q2, q3, q4]) rfl ?_
    rw [HAP.out]
    refine ⟨_, v, rfl, ⟨?_, World.ownsRow_nil _ _ _ _, fun g e => (nomatch e)⟩, HCE.out.mono (fun _ f => f.elim), fun g e => .inl e⟩
    rw [List.append_nil]
    exact HRW.out.new HCE.out
  · subst he
    have HRF : Hid (right ⟨sn, a, b, c, d⟩ ∧ formed ⟨k, yb, yl, yd⟩ = 0) := nxt_err (by rw [HX.out])
    have HRW1 : Hid (Rw (w1.alloc (.cells #[.int .i64 t.n, .int .i64 t.a, .int .i64 t.b, .int .i64 t.c, .int .i64 t.d] 52)) B r v n bs) := HRW.out.new HC1.out
    have HBB : Hid (B ≤ w0.heap.size) := hB
    obtain ⟨x0, x1, x2, x3, x4⟩ := cells5 HNN.out
    obtain ⟨y0, y1, y2, y3⟩ := cells4y HY1.out
    by_cases hk : k = 1
    · subst hk
      have HAP : Hid ((app n bs ⟨sn, a, b, c, d⟩ ⟨1, yb, yl, yd⟩) = ([yb.toNat], t, 0)) := by
        show _ = _
        unfold app
        rw [HX.out]
        rfl
      have HYB : Hid (nums [yb.toNat] = [yb]) := by
        show _ = _
        have := hy.y
        simp only at this
        simp only [nums, List.map_cons, List.map_nil]
        congr 1
        omega
      have HWS : Hid ((w1.alloc (.cells #[.int .i64 t.n, .int .i64 t.a, .int .i64 t.b, .int .i64 t.c, .int .i64 t.d] 52)).heap.size = w1.heap.size + 1) := World.size_alloc _ _
      go_wp2_with fail
      generalize w1.alloc (.cells #[.int .i64 t.n, .int .i64 t.a, .int .i64 t.b, .int .i64 t.c, .int .i64 t.d] 52) = W1 at *
      have cA := chg_one W1 (.cells #[.int .u8 yb] 5)
      have hown : (W1.alloc (.cells #[.int .u8 yb] 5)).ownsRow w0.heap.size 5 1 (.slice (some ⟨w1.heap.size + 1, 0, none⟩) 1 1) 1 (ins .u8 (nums [yb.toNat])) := by
        have := World.ownsRow_lit (base := w0.heap.size) (e := 5) (size := 1) W1 #[.int .u8 yb] 1 HC1.out.size (by decide) rfl
        rw [HWS.out] at this
        rw [HYB.out]
        exact this
      have hlr : ∀ z, Foot r v z → z < w0.heap.size := fun z f => (HRW.out.lt f).2
      refine (rput_any B r v n bs (some ⟨w1.heap.size + 1, 0, none⟩) 1 1 [yb.toNat] _ (HRW1.out.new cA) (by have := HBB.out; have := HC1.out.size; rw [World.size_alloc]; omega) (row8_own hown) (by omega)).mono ?_
      rintro z W2 ⟨rfl, v', hrw2, c2, hmv⟩
      have hG := HG.out
      have HZ : Hid (W2.heap[w0.heap.size + 1 + 1]? = some (.cells #[.int .i64 0, .int .i64 0, .int .i64 0, .int .i64 0, .int .i64 0] 52 (0, 0))) := blk_keep (blk_keep HZ1.out cA (fun f => f)) c2 (fun f => by have := hlr _ f; omega)
      have HN : Hid (W2.heap[w1.heap.size]? = some (.cells #[.int .i64 t.n, .int .i64 t.a, .int .i64 t.b, .int .i64 t.c, .int .i64 t.d] 52 (0, 0))) := blk_keep (blk_keep HNN.out cA (fun f => f)) c2 (fun f => by have := hlr _ f; omega)
      have hapt : ∀ g, (Value.slice (some ⟨w1.heap.size + 1, 0, none⟩) 1 1).ownBlock = some g → ¬ Foot r v' g := fun g e f => by
        simp only [Value.ownBlock, Option.some.injEq] at e
        subst e
        rcases f with f | f
        · have := hlr _ (.inl f : Foot r v _)
          omega
        · rcases hmv _ f with f | f
          · have := hlr _ (.inr f)
            omega
          · rw [World.size_alloc, HWS.out] at f
            omega
      have HM : Hid (Made Rw B w0.heap.size r n (bs ++ [yb.toNat]) [yb.toNat] (.slice (some ⟨w1.heap.size + 1, 0, none⟩) 1 1) v' W2) := ⟨hrw2, ownsRow_keep hown c2 (fun g e f => by
        simp only [Value.ownBlock, Option.some.injEq] at e
        subst e
        have := hlr _ f
        omega), hapt⟩
      have HC2 : Hid (Chg (Foot r v) w0 W2) := ((chg_then HC1.out cA).mono (fun _ f => f.elim)).trans c2 (fun z f => .inl f)
      have HMV : Hid (Moved w0 v v') := moved_from (by have := HC1.out.size; rw [World.size_alloc]; omega) hmv
      clear cA hown hlr hrw2 c2 hmv hG hapt HS1 HY1 HZ1 HC1 HNN HRW1 x0 x1 x2 x3 x4 y0 y1 y2 y3 HWS
      go_wp2_with fail
      refine wp_region_setM (mk := fun u => #[_, _, _, _, _, _, u 6, _, _, _, _, _, _, _, _, _, _, _, _, _, _, _, _, _, _, _, _, _, _, _, _, _, u 32, u 33, _, _, _, _, _, _, _, _, _, _, _, _, _, _, _]) (G := lookG [(32, .slice (some ⟨w1.heap.size + 1, 0, none⟩) 1 1), (33, .agg #[.int .i64 t.n, .int .i64 t.a, .int .i64 t.b, .int .i64 t.c, .int .i64 t.d]), (6, .slice (some ⟨w1.heap.size + 1, 0, none⟩) 1 1)]) (J := fun L_ u ww => Chg (fun z => z = w0.heap.size + 1 + 1) W2 ww ∧ (L_ 3 = false → ww.heap[w0.heap.size + 1 + 1]? = some (.cells #[.int .i64 0, .int .i64 0, .int .i64 0, .int .i64 0, .int .i64 0] 52 (0, 0))) ∧ (L_ 3 = true → ww.heap[w0.heap.size + 1 + 1]? = some (.cells #[.int .i64 t.n, .int .i64 t.a, .int .i64 t.b, .int .i64 t.c, .int .i64 t.d] 52 (0, 0)))) [3] ([]) (fun t => if t = 6 then .slice none 0 0 else undef) rfl (by kernel_rfl) 4 _ rfl rfl (by kernel_rfl) (by kernel_rfl) ?_ ?_ ?_ ?_ ?_
      · repeat (refine ⟨fun _ _ => rfl, ?_⟩)
        exact trivial
      · intro L_ L2 u u2 ww h hj
        have l3 : L_ 3 = L2 3 := (h 3 (by decide)).1
        show _ ∧ _
        rw [← l3]
        exact hj
      · exact ⟨(Chg.refl _ W2).drew, fun _ => HZ.out, (fun h => nomatch h)⟩
      · refine ⟨?_, ?_, ?_, ?_, trivial⟩
        · show StepRS _ _ _ _ _ _ _ _ -- 32
          unfold StepRS
          intro L_ u w_ hj hd K hK
          clear hd
          clear hj
          go_simp
          exact hK.out _ rfl
        · show StepRS _ _ _ _ _ _ _ _ -- 33
          unfold StepRS
          intro L_ u w_ hj hd K hK
          clear hd
          obtain ⟨x0, x1, x2, x3, x4⟩ := cells5 (blk_keep HN.out hj.1 (by have := HG.out; omega))
          clear hj
          go_simp
          exact hK.out _ rfl
        · show StepRS _ _ _ _ _ _ _ _ -- 6
          unfold StepRS
          intro L_ u w_ hj hd K hK
          have h32 : u 32 = .slice (some ⟨w1.heap.size + 1, 0, none⟩) 1 1 := hd.get 0 (by kernel_rfl)
          clear hd
          simp only [h32] at hK
          clear hj
          go_simp
          exact hK.out _ rfl
        · show StepWS _ _ _ _ _ _ _ _ _ -- #3
          unfold StepWS
          intro L_ u w_ hj hli hwt hd K hK
          have h33 : u 33 = .agg #[.int .i64 t.n, .int .i64 t.a, .int .i64 t.b, .int .i64 t.c, .int .i64 t.d] := hd.get 1 (by kernel_rfl)
          clear hd
          simp only [h33] at hK
          have hz := hj.2.1 hli
          obtain ⟨⟨p0, f0⟩, ⟨p1, f1⟩, ⟨p2, f2⟩, ⟨p3, f3⟩, ⟨p4, f4⟩, hblk, hchg⟩ := put5_of hz (.int .i64 t.n) (.int .i64 t.a) (.int .i64 t.b) (.int .i64 t.c) (.int .i64 t.d)
          have HE : Hid _ := And.intro (Chg.trans hj.1 hchg (fun z e => .inl e)) hblk
          clear hj hz hblk hchg
          go_simp
          exact hK.out undef _ ⟨HE.out.1, (fun h => nomatch h), fun _ => HE.out.2⟩ trivial
      · intro u w9 hj hA K hK
        obtain ⟨hc9, _, hz9⟩ := hj
        have hz9 := hz9 rfl
        have e6 : u 6 = .slice (some ⟨w1.heap.size + 1, 0, none⟩) 1 1 := hA.at 6 (by kernel_rfl)
        have HE : Hid _ := cells5 hz9
        have HM9 : Hid _ := HM.out.off rw_like HZ.out (by decide) (by decide) hc9
        have HC9 : Hid _ := HC2.out.trans hc9 (fun z e => .inr (by omega))
        clear hA hc9 hz9 HM HC2 HZ HN
        go_simp
        refine hK.out _ _ ?_
        clear hK
        go_wp2
        obtain ⟨q0, q1, q2, q3, q4⟩ := HE.out
        refine bodyPost_ret (v := .tuple #[.slice (some ⟨w1.heap.size + 1, 0, none⟩) 1 1, .agg #[.int .i64 t.n, .int .i64 t.a, .int .i64 t.b, .int .i64 t.c, .int .i64 t.d], .int .i64 0]) (by simp [results, Tryd.results22, go_sem, q0, q1, q2, q3, q4]) rfl ?_
        rw [HAP.out]
        exact ⟨_, rfl, v', HM9.out, HC9.out, HMV.out⟩
    · obtain ⟨ds, hds⟩ : ∃ ds, distS ⟨sn, a, b, c, d⟩ ⟨k, yb, yl, yd⟩ = ds := ⟨_, rfl⟩
      obtain ⟨sz, hsz⟩ : ∃ sz, sizeA ⟨k, yb, yl, yd⟩ = sz := ⟨_, rfl⟩
      have HSZ : Hid (0 ≤ sz ∧ sz ≤ 273) := by rw [← hsz]; exact sizeA_le _
      have HD : Hid (∀ w', Calls Tryd.prog 47 #[.agg #[.int .i64 sn, .int .i64 a, .int .i64 b, .int .i64 c, .int .i64 d], .agg #[.int .i64 k, .int .u8 yb, .int .i64 yl, .int .i64 yd]] w' fun e w'' => e = .returned (.int .i64 ds) ∧ Chg (fun _ => False) w' w'') := fun w' => by
        have := rdist_q sn a b c d k yb yl yd HRF.out.2 hk w'
        rw [hds] at this
        exact this
      have HZE : Hid (∀ w', Calls Tryd.prog 35 #[.agg #[.int .i64 k, .int .u8 yb, .int .i64 yl, .int .i64 yd]] w' fun e w'' => e = .returned (.int .i64 sz) ∧ Chg (fun _ => False) w' w'') := fun w' => by
        have := rsize_q k yb yl yd hy w'
        rw [hsz] at this
        exact this
      have HAP : Hid ((app n bs ⟨sn, a, b, c, d⟩ ⟨k, yb, yl, yd⟩) = if inwD n bs ds then (copyL ds.toNat bs sz.toNat, t, 0) else ([], zero, 7)) := by
        show _ = _
        unfold app
        rw [HX.out, if_neg (by simp), if_neg hk, hds, hsz]
      have hk' : (k == 1) = false := by simp [hk]
      clear hds hsz
      have HLR : Hid (∀ z, Foot r v z → z < w0.heap.size) := fun z f => (HRW.out.lt f).2
      go_wp2_with fail
      generalize w1.alloc (.cells #[.int .i64 t.n, .int .i64 t.a, .int .i64 t.b, .int .i64 t.c, .int .i64 t.d] 52) = W1 at *
      clear x0 x1 x2 x3 x4 y0 y1 y2 y3
      by_cases hi : inwD n bs ds
      · have HIN : Hid (inwD n bs ds) := hi
        have HAQ : Hid ((app n bs ⟨sn, a, b, c, d⟩ ⟨k, yb, yl, yd⟩) = (copyL ds.toNat bs sz.toNat, t, 0)) := HAP.out.trans (if_pos hi)
        clear hi HAP
        refine wp_region_setM (mk := fun u => #[_, _, _, _, _, _, _, _, _, _, _, _, u 12, _, _, _, _, _, _, _, _, _, _, _, _, _, _, _, _, _, _, _, _, _, u 34, u 35, u 36, u 37, u 38, u 39, u 40, u 41, u 42, u 43, _, _, _, _, _]) (G := lookG [(35, .pointer (some ⟨r, 0, none⟩)), (36, .agg #[.int .i64 sn, .int .i64 a, .int .i64 b, .int .i64 c, .int .i64 d]), (37, .agg #[.int .i64 k, .int .u8 yb, .int .i64 yl, .int .i64 yd]), (38, .int .i64 ds), (39, .agg #[.int .i64 k, .int .u8 yb, .int .i64 yl, .int .i64 yd]), (40, .int .i64 sz)]) (J := fun L_ u ww => Chg (Foot r v) W1 ww ∧ ((L_ 6 = false ∧ L_ 7 = false ∧ L_ 8 = false ∧ L_ 9 = false ∧ L_ 10 = false ∧ Chg (fun _ => False) W1 ww) ∨ (L_ 3 = true ∧ L_ 5 = true ∧ L_ 6 = true ∧ ∃ ov v', u 41 = .tuple #[ov, .int .i64 0] ∧ (L_ 7 = true → u 34 = .tuple #[ov, .int .i64 0]) ∧ (L_ 8 = true → u 42 = ov) ∧ (L_ 9 = true → u 43 = .int .i64 0) ∧ (L_ 10 = true → u 12 = ov) ∧ (Made Rw B w0.heap.size r n (bs ++ copyL ds.toNat bs sz.toNat) (copyL ds.toNat bs sz.toNat) ov v' ww ∧ Moved w0 v v')))) [3, 5, 6, 7, 8, 9, 10] ([]) (fun _ => undef) rfl (by kernel_rfl) 11 _ rfl rfl (by kernel_rfl) (by kernel_rfl) ?_ ?_ ?_ ?_ ?_
        · repeat (refine ⟨fun _ _ => rfl, ?_⟩)
          exact trivial
        · intro L_ L2 u u2 ww h hj
          have l3_ : L_ 3 = L2 3 := (h 3 (by decide)).1
          have l5_ : L_ 5 = L2 5 := (h 5 (by decide)).1
          have l6_ : L_ 6 = L2 6 := (h 6 (by decide)).1
          have e6_ : u 41 = u2 41 := (h 6 (by decide)).2
          have l7_ : L_ 7 = L2 7 := (h 7 (by decide)).1
          have e7_ : u 34 = u2 34 := (h 7 (by decide)).2
          have l8_ : L_ 8 = L2 8 := (h 8 (by decide)).1
          have e8_ : u 42 = u2 42 := (h 8 (by decide)).2
          have l9_ : L_ 9 = L2 9 := (h 9 (by decide)).1
          have e9_ : u 43 = u2 43 := (h 9 (by decide)).2
          have l10_ : L_ 10 = L2 10 := (h 10 (by decide)).1
          have e10_ : u 12 = u2 12 := (h 10 (by decide)).2
          show _ ∧ _
          rw [← l3_, ← l5_, ← l6_, ← e6_, ← l7_, ← e7_, ← l8_, ← e8_, ← l9_, ← e9_, ← l10_, ← e10_]
          exact hj
        · exact ⟨(Chg.refl _ W1).drew, .inl ⟨rfl, rfl, rfl, rfl, rfl, (Chg.refl _ W1).drew⟩⟩
        · refine ⟨?_, ?_, ?_, ?_, ?_, ?_, ?_, ?_, ?_, ?_, ?_, trivial⟩
          · show StepRS _ _ _ _ _ _ _ _ -- 35
            unfold StepRS
            intro L_ u w_ hj hd K hK
            clear hd
            have hc := hj.1
            clear hj hc
            go_simp
            exact hK.out _ rfl
          · show StepRS _ _ _ _ _ _ _ _ -- 36
            unfold StepRS
            intro L_ u w_ hj hd K hK
            clear hd
            have hc := hj.1
            obtain ⟨x0, x1, x2, x3, x4⟩ := cells5 (blk_keep HS1.out hc (fun f => by have := HLR.out _ f; omega))
            clear hj hc
            go_simp
            exact hK.out _ rfl
          · show StepRS _ _ _ _ _ _ _ _ -- 37
            unfold StepRS
            intro L_ u w_ hj hd K hK
            clear hd
            have hc := hj.1
            obtain ⟨x0, x1, x2, x3⟩ := cells4y (blk_keep HY1.out hc (fun f => by have := HLR.out _ f; omega))
            clear hj hc
            go_simp
            exact hK.out _ rfl
          · show StepWS _ _ _ _ _ _ _ _ _ -- 38
            unfold StepWS
            intro L_ u w_ hj hli hwt hd K hK
            have h36 : u 36 = .agg #[.int .i64 sn, .int .i64 a, .int .i64 b, .int .i64 c, .int .i64 d] := hd.get 1 (by kernel_rfl)
            have h37 : u 37 = .agg #[.int .i64 k, .int .u8 yb, .int .i64 yl, .int .i64 yd] := hd.get 2 (by kernel_rfl)
            clear hd
            simp only [h36, h37] at hK
            obtain ⟨hc, hm⟩ := hj
            rcases hm with ⟨n41, n34, n42, n43, n12, hF⟩ | ⟨l38, l40, l41, _⟩
            · go_simp
              refine Calls.mono (HD.out w_) ?_
              rintro z w2 ⟨rfl, c2⟩
              exact hK.out _ w2 ⟨hc.trans c2 (fun _ f => f.elim), .inl ⟨n41, n34, n42, n43, n12, chg_then hF c2⟩⟩ rfl
            · rw [l38] at hli; cases hli
          · show StepRS _ _ _ _ _ _ _ _ -- 39
            unfold StepRS
            intro L_ u w_ hj hd K hK
            clear hd
            have hc := hj.1
            obtain ⟨x0, x1, x2, x3⟩ := cells4y (blk_keep HY1.out hc (fun f => by have := HLR.out _ f; omega))
            clear hj hc
            go_simp
            exact hK.out _ rfl
          · show StepWS _ _ _ _ _ _ _ _ _ -- 40
            unfold StepWS
            intro L_ u w_ hj hli hwt hd K hK
            have h39 : u 39 = .agg #[.int .i64 k, .int .u8 yb, .int .i64 yl, .int .i64 yd] := hd.get 4 (by kernel_rfl)
            clear hd
            simp only [h39] at hK
            obtain ⟨hc, hm⟩ := hj
            rcases hm with ⟨n41, n34, n42, n43, n12, hF⟩ | ⟨l38, l40, l41, _⟩
            · go_simp
              refine Calls.mono (HZE.out w_) ?_
              rintro z w2 ⟨rfl, c2⟩
              exact hK.out _ w2 ⟨hc.trans c2 (fun _ f => f.elim), .inl ⟨n41, n34, n42, n43, n12, chg_then hF c2⟩⟩ rfl
            · rw [l40] at hli; cases hli
          · show StepWS _ _ _ _ _ _ _ _ _ -- 41
            unfold StepWS
            intro L_ u w_ hj hli hwt hd K hK
            have h35 : u 35 = .pointer (some ⟨r, 0, none⟩) := hd.get 0 (by kernel_rfl)
            have h38 : u 38 = .int .i64 ds := hd.get 3 (by kernel_rfl)
            have h40 : u 40 = .int .i64 sz := hd.get 5 (by kernel_rfl)
            clear hd
            simp only [h35, h38, h40] at hK
            obtain ⟨hc, hm⟩ := hj
            rcases hm with ⟨n41, n34, n42, n43, n12, hF⟩ | ⟨l38, l40, l41, _⟩
            · have m34 : ¬ L_ 7 = true := by rw [n34]; decide
              have m42 : ¬ L_ 8 = true := by rw [n42]; decide
              have m43 : ¬ L_ 9 = true := by rw [n43]; decide
              have m12 : ¬ L_ 10 = true := by rw [n12]; decide
              have l38 : L_ 3 = true := hwt ⟨3, .data⟩ (by simp) rfl
              have l40 : L_ 5 = true := hwt ⟨5, .data⟩ (by simp) rfl
              go_simp
              refine Calls.mono (rcopy_any B r v n bs ds sz w_ (HRW1.out.new hF) (by have := HBB.out; have := HC1.out.size; have := hF.size; omega) hn hl) ?_
              rintro z w2 (⟨hno, _⟩ | ⟨_, ov, v', rfl, hq⟩)
              · exact absurd ⟨HIN.out, HSZ.out⟩ hno
              have c2 := hq.chg
              exact hK.out _ w2 ⟨hc.trans c2 (fun z f => .inl f), .inr ⟨l38, l40, rfl, ov, v', rfl, (fun e => absurd e m34), (fun e => absurd e m42), (fun e => absurd e m43), (fun e => absurd e m12), ⟨⟨hq.rw, by rw [copyL_len]; exact owns_base hq.out (Nat.le_trans HC1.out.size hF.size), hq.apart⟩, moved_from (Nat.le_trans HC1.out.size hF.size) hq.mov⟩⟩⟩ trivial
            · rw [l41] at hli; cases hli
          · show StepWS _ _ _ _ _ _ _ _ _ -- 34
            unfold StepWS
            intro L_ u w_ hj hli hwt hd K hK
            clear hd
            obtain ⟨hc, hm⟩ := hj
            have lopr : L_ 6 = true := hwt ⟨6, .data⟩ (by simp) rfl
            rcases hm with ⟨n41, n34, n42, n43, n12, hF⟩ | ⟨l38, l40, l41, ov, v', e41, q34, q42, q43, q12, hp⟩
            · rw [n41] at lopr; cases lopr
            · have eo := e41
              have HPH : Hid _ := hp
              clear hp
              simp only [eo] at hK ⊢
              go_simp
              exact hK.out _ _ ⟨hc, .inr ⟨l38, l40, l41, ov, v', e41, (fun _ => rfl), q42, q43, q12, HPH.out⟩⟩ trivial
          · show StepWS _ _ _ _ _ _ _ _ _ -- 42
            unfold StepWS
            intro L_ u w_ hj hli hwt hd K hK
            clear hd
            obtain ⟨hc, hm⟩ := hj
            have lopr : L_ 7 = true := hwt ⟨7, .data⟩ (by simp) rfl
            rcases hm with ⟨n41, n34, n42, n43, n12, hF⟩ | ⟨l38, l40, l41, ov, v', e41, q34, q42, q43, q12, hp⟩
            · rw [n34] at lopr; cases lopr
            · have eo := q34 lopr
              have HPH : Hid _ := hp
              clear hp
              simp only [eo, e41] at hK ⊢
              go_simp
              exact hK.out _ _ ⟨hc, .inr ⟨l38, l40, l41, ov, v', e41, q34, (fun _ => rfl), q43, q12, HPH.out⟩⟩ trivial
          · show StepWS _ _ _ _ _ _ _ _ _ -- 43
            unfold StepWS
            intro L_ u w_ hj hli hwt hd K hK
            clear hd
            obtain ⟨hc, hm⟩ := hj
            have lopr : L_ 7 = true := hwt ⟨7, .data⟩ (by simp) rfl
            rcases hm with ⟨n41, n34, n42, n43, n12, hF⟩ | ⟨l38, l40, l41, ov, v', e41, q34, q42, q43, q12, hp⟩
            · rw [n34] at lopr; cases lopr
            · have eo := q34 lopr
              have HPH : Hid _ := hp
              clear hp
              simp only [eo, e41] at hK ⊢
              go_simp
              exact hK.out _ _ ⟨hc, .inr ⟨l38, l40, l41, ov, v', e41, q34, q42, (fun _ => rfl), q12, HPH.out⟩⟩ trivial
          · show StepWS _ _ _ _ _ _ _ _ _ -- 12
            unfold StepWS
            intro L_ u w_ hj hli hwt hd K hK
            clear hd
            obtain ⟨hc, hm⟩ := hj
            have lopr : L_ 8 = true := hwt ⟨8, .data⟩ (by simp) rfl
            rcases hm with ⟨n41, n34, n42, n43, n12, hF⟩ | ⟨l38, l40, l41, ov, v', e41, q34, q42, q43, q12, hp⟩
            · rw [n42] at lopr; cases lopr
            · have eo := q42 lopr
              have HPH : Hid _ := hp
              clear hp
              simp only [eo, e41] at hK ⊢
              go_simp
              exact hK.out _ _ ⟨hc, .inr ⟨l38, l40, l41, ov, v', e41, q34, q42, q43, (fun _ => rfl), HPH.out⟩⟩ trivial
        · intro u w7 hj hA K hK
          obtain ⟨hc7, hm⟩ := hj
          rcases hm with ⟨n41, _⟩ | ⟨_, _, _, ov, v', e41, _, q42, q43, q12, hp⟩
          · cases n41
          have e12 : u 12 = ov := q12 rfl
          have e43 : u 43 = .int .i64 0 := q43 rfl
          have hlr := HLR.out
          have hsz1 := HC1.out.size
          have HZ : Hid (w7.heap[w0.heap.size + 1 + 1]? = some (.cells #[.int .i64 0, .int .i64 0, .int .i64 0, .int .i64 0, .int .i64 0] 52 (0, 0))) := blk_keep HZ1.out hc7 (fun f => by have := hlr _ f; omega)
          have HN : Hid (w7.heap[w1.heap.size]? = some (.cells #[.int .i64 t.n, .int .i64 t.a, .int .i64 t.b, .int .i64 t.c, .int .i64 t.d] 52 (0, 0))) := blk_keep HNN.out hc7 (fun f => by have := hlr _ f; have := HG.out; omega)
          have HM : Hid (Made Rw B w0.heap.size r n (bs ++ copyL ds.toNat bs sz.toNat) (copyL ds.toNat bs sz.toNat) ov v' w7) := hp.1
          have HC2 : Hid (Chg (Foot r v) w0 w7) := (HC1.out.mono (fun _ f => f.elim)).trans hc7 (fun z f => .inl f)
          have HMV : Hid (Moved w0 v v') := hp.2
          clear hA hc7 e41 q42 q43 q12 hp hlr hsz1 HS1 HY1 HZ1 HC1 HNN HRW1
          simp only [e12, e43]
          go_simp
          refine hK.out _ _ ?_
          clear hK e12 e43
          go_wp2_with fail
          refine wp_region_setM (mk := fun u => #[_, _, _, _, _, _, u 6, _, _, _, _, _, _, _, _, _, _, _, _, _, _, _, _, _, _, _, _, _, _, _, _, _, _, _, _, _, _, _, _, _, _, _, _, _, _, _, _, u 47, u 48]) (G := lookG [(47, ov), (48, .agg #[.int .i64 t.n, .int .i64 t.a, .int .i64 t.b, .int .i64 t.c, .int .i64 t.d]), (6, ov)]) (J := fun L_ u ww => Chg (fun z => z = w0.heap.size + 1 + 1) w7 ww ∧ (L_ 3 = false → ww.heap[w0.heap.size + 1 + 1]? = some (.cells #[.int .i64 0, .int .i64 0, .int .i64 0, .int .i64 0, .int .i64 0] 52 (0, 0))) ∧ (L_ 3 = true → ww.heap[w0.heap.size + 1 + 1]? = some (.cells #[.int .i64 t.n, .int .i64 t.a, .int .i64 t.b, .int .i64 t.c, .int .i64 t.d] 52 (0, 0)))) [3] ([]) (fun t => if t = 6 then .slice none 0 0 else undef) rfl (by kernel_rfl) 4 _ rfl rfl (by kernel_rfl) (by kernel_rfl) ?_ ?_ ?_ ?_ ?_
          · repeat (refine ⟨fun _ _ => rfl, ?_⟩)
            exact trivial
          · intro L_ L2 u u2 ww h hj
            have l3 : L_ 3 = L2 3 := (h 3 (by decide)).1
            show _ ∧ _
            rw [← l3]
            exact hj
          · exact ⟨(Chg.refl _ w7).drew, fun _ => HZ.out, (fun h => nomatch h)⟩
          · refine ⟨?_, ?_, ?_, ?_, trivial⟩
            · show StepRS _ _ _ _ _ _ _ _ -- 47
              unfold StepRS
              intro L_ u w_ hj hd K hK
              clear hd
              clear hj
              go_simp
              exact hK.out _ rfl
            · show StepRS _ _ _ _ _ _ _ _ -- 48
              unfold StepRS
              intro L_ u w_ hj hd K hK
              clear hd
              obtain ⟨x0, x1, x2, x3, x4⟩ := cells5 (blk_keep HN.out hj.1 (by have := HG.out; omega))
              clear hj
              go_simp
              exact hK.out _ rfl
            · show StepRS _ _ _ _ _ _ _ _ -- 6
              unfold StepRS
              intro L_ u w_ hj hd K hK
              have h47 : u 47 = ov := hd.get 0 (by kernel_rfl)
              clear hd
              simp only [h47] at hK
              clear hj
              go_simp
              exact hK.out _ rfl
            · show StepWS _ _ _ _ _ _ _ _ _ -- #3
              unfold StepWS
              intro L_ u w_ hj hli hwt hd K hK
              have h48 : u 48 = .agg #[.int .i64 t.n, .int .i64 t.a, .int .i64 t.b, .int .i64 t.c, .int .i64 t.d] := hd.get 1 (by kernel_rfl)
              clear hd
              simp only [h48] at hK
              have hz := hj.2.1 hli
              obtain ⟨⟨p0, f0⟩, ⟨p1, f1⟩, ⟨p2, f2⟩, ⟨p3, f3⟩, ⟨p4, f4⟩, hblk, hchg⟩ := put5_of hz (.int .i64 t.n) (.int .i64 t.a) (.int .i64 t.b) (.int .i64 t.c) (.int .i64 t.d)
              have HE : Hid _ := And.intro (Chg.trans hj.1 hchg (fun z e => .inl e)) hblk
              clear hj hz hblk hchg
              go_simp
              exact hK.out undef _ ⟨HE.out.1, (fun h => nomatch h), fun _ => HE.out.2⟩ trivial
          · intro u w9 hj hA K hK
            obtain ⟨hc9, _, hz9⟩ := hj
            have hz9 := hz9 rfl
            have e6 : u 6 = ov := hA.at 6 (by kernel_rfl)
            have HE : Hid _ := cells5 hz9
            have HM9 : Hid _ := HM.out.off rw_like HZ.out (by decide) (by decide) hc9
            have HC9 : Hid _ := HC2.out.trans hc9 (fun z e => .inr (by omega))
            clear hA hc9 hz9 HM HC2 HZ HN
            go_simp
            refine hK.out _ _ ?_
            clear hK
            go_wp2
            obtain ⟨q0, q1, q2, q3, q4⟩ := HE.out
            refine bodyPost_ret (v := .tuple #[ov, .agg #[.int .i64 t.n, .int .i64 t.a, .int .i64 t.b, .int .i64 t.c, .int .i64 t.d], .int .i64 0]) (by simp [results, Tryd.results22, go_sem, q0, q1, q2, q3, q4]) rfl ?_
            rw [HAQ.out]
            exact ⟨_, rfl, v', HM9.out, HC9.out, HMV.out⟩
      · have HIN : Hid (¬ inwD n bs ds) := hi
        have HAQ : Hid ((app n bs ⟨sn, a, b, c, d⟩ ⟨k, yb, yl, yd⟩) = ([], zero, 7)) := HAP.out.trans (if_neg hi)
        clear hi HAP
        refine wp_region_setM (mk := fun u => #[_, _, _, _, _, _, _, _, _, _, _, _, u 12, _, _, _, _, _, _, _, _, _, _, _, _, _, _, _, _, _, _, _, _, _, u 34, u 35, u 36, u 37, u 38, u 39, u 40, u 41, u 42, u 43, _, _, _, _, _]) (G := lookG [(35, .pointer (some ⟨r, 0, none⟩)), (36, .agg #[.int .i64 sn, .int .i64 a, .int .i64 b, .int .i64 c, .int .i64 d]), (37, .agg #[.int .i64 k, .int .u8 yb, .int .i64 yl, .int .i64 yd]), (38, .int .i64 ds), (39, .agg #[.int .i64 k, .int .u8 yb, .int .i64 yl, .int .i64 yd]), (40, .int .i64 sz)]) (J := fun L_ u ww => Chg (Foot r v) W1 ww ∧ ((L_ 6 = false ∧ L_ 7 = false ∧ L_ 8 = false ∧ L_ 9 = false ∧ L_ 10 = false ∧ Chg (fun _ => False) W1 ww) ∨ (L_ 3 = true ∧ L_ 5 = true ∧ L_ 6 = true ∧ ∃ ov, u 41 = .tuple #[ov, .int .i64 7] ∧ (L_ 7 = true → u 34 = .tuple #[ov, .int .i64 7]) ∧ (L_ 8 = true → u 42 = ov) ∧ (L_ 9 = true → u 43 = .int .i64 7) ∧ (L_ 10 = true → u 12 = ov) ∧ (ov = .slice none 0 0 ∧ Chg (fun _ => False) W1 ww)))) [3, 5, 6, 7, 8, 9, 10] ([]) (fun _ => undef) rfl (by kernel_rfl) 11 _ rfl rfl (by kernel_rfl) (by kernel_rfl) ?_ ?_ ?_ ?_ ?_
        · repeat (refine ⟨fun _ _ => rfl, ?_⟩)
          exact trivial
        · intro L_ L2 u u2 ww h hj
          have l3_ : L_ 3 = L2 3 := (h 3 (by decide)).1
          have l5_ : L_ 5 = L2 5 := (h 5 (by decide)).1
          have l6_ : L_ 6 = L2 6 := (h 6 (by decide)).1
          have e6_ : u 41 = u2 41 := (h 6 (by decide)).2
          have l7_ : L_ 7 = L2 7 := (h 7 (by decide)).1
          have e7_ : u 34 = u2 34 := (h 7 (by decide)).2
          have l8_ : L_ 8 = L2 8 := (h 8 (by decide)).1
          have e8_ : u 42 = u2 42 := (h 8 (by decide)).2
          have l9_ : L_ 9 = L2 9 := (h 9 (by decide)).1
          have e9_ : u 43 = u2 43 := (h 9 (by decide)).2
          have l10_ : L_ 10 = L2 10 := (h 10 (by decide)).1
          have e10_ : u 12 = u2 12 := (h 10 (by decide)).2
          show _ ∧ _
          rw [← l3_, ← l5_, ← l6_, ← e6_, ← l7_, ← e7_, ← l8_, ← e8_, ← l9_, ← e9_, ← l10_, ← e10_]
          exact hj
        · exact ⟨(Chg.refl _ W1).drew, .inl ⟨rfl, rfl, rfl, rfl, rfl, (Chg.refl _ W1).drew⟩⟩
        · refine ⟨?_, ?_, ?_, ?_, ?_, ?_, ?_, ?_, ?_, ?_, ?_, trivial⟩
          · show StepRS _ _ _ _ _ _ _ _ -- 35
            unfold StepRS
            intro L_ u w_ hj hd K hK
            clear hd
            have hc := hj.1
            clear hj hc
            go_simp
            exact hK.out _ rfl
          · show StepRS _ _ _ _ _ _ _ _ -- 36
            unfold StepRS
            intro L_ u w_ hj hd K hK
            clear hd
            have hc := hj.1
            obtain ⟨x0, x1, x2, x3, x4⟩ := cells5 (blk_keep HS1.out hc (fun f => by have := HLR.out _ f; omega))
            clear hj hc
            go_simp
            exact hK.out _ rfl
          · show StepRS _ _ _ _ _ _ _ _ -- 37
            unfold StepRS
            intro L_ u w_ hj hd K hK
            clear hd
            have hc := hj.1
            obtain ⟨x0, x1, x2, x3⟩ := cells4y (blk_keep HY1.out hc (fun f => by have := HLR.out _ f; omega))
            clear hj hc
            go_simp
            exact hK.out _ rfl
          · show StepWS _ _ _ _ _ _ _ _ _ -- 38
            unfold StepWS
            intro L_ u w_ hj hli hwt hd K hK
            have h36 : u 36 = .agg #[.int .i64 sn, .int .i64 a, .int .i64 b, .int .i64 c, .int .i64 d] := hd.get 1 (by kernel_rfl)
            have h37 : u 37 = .agg #[.int .i64 k, .int .u8 yb, .int .i64 yl, .int .i64 yd] := hd.get 2 (by kernel_rfl)
            clear hd
            simp only [h36, h37] at hK
            obtain ⟨hc, hm⟩ := hj
            rcases hm with ⟨n41, n34, n42, n43, n12, hF⟩ | ⟨l38, l40, l41, _⟩
            · go_simp
              refine Calls.mono (HD.out w_) ?_
              rintro z w2 ⟨rfl, c2⟩
              exact hK.out _ w2 ⟨hc.trans c2 (fun _ f => f.elim), .inl ⟨n41, n34, n42, n43, n12, chg_then hF c2⟩⟩ rfl
            · rw [l38] at hli; cases hli
          · show StepRS _ _ _ _ _ _ _ _ -- 39
            unfold StepRS
            intro L_ u w_ hj hd K hK
            clear hd
            have hc := hj.1
            obtain ⟨x0, x1, x2, x3⟩ := cells4y (blk_keep HY1.out hc (fun f => by have := HLR.out _ f; omega))
            clear hj hc
            go_simp
            exact hK.out _ rfl
          · show StepWS _ _ _ _ _ _ _ _ _ -- 40
            unfold StepWS
            intro L_ u w_ hj hli hwt hd K hK
            have h39 : u 39 = .agg #[.int .i64 k, .int .u8 yb, .int .i64 yl, .int .i64 yd] := hd.get 4 (by kernel_rfl)
            clear hd
            simp only [h39] at hK
            obtain ⟨hc, hm⟩ := hj
            rcases hm with ⟨n41, n34, n42, n43, n12, hF⟩ | ⟨l38, l40, l41, _⟩
            · go_simp
              refine Calls.mono (HZE.out w_) ?_
              rintro z w2 ⟨rfl, c2⟩
              exact hK.out _ w2 ⟨hc.trans c2 (fun _ f => f.elim), .inl ⟨n41, n34, n42, n43, n12, chg_then hF c2⟩⟩ rfl
            · rw [l40] at hli; cases hli
          · show StepWS _ _ _ _ _ _ _ _ _ -- 41
            unfold StepWS
            intro L_ u w_ hj hli hwt hd K hK
            have h35 : u 35 = .pointer (some ⟨r, 0, none⟩) := hd.get 0 (by kernel_rfl)
            have h38 : u 38 = .int .i64 ds := hd.get 3 (by kernel_rfl)
            have h40 : u 40 = .int .i64 sz := hd.get 5 (by kernel_rfl)
            clear hd
            simp only [h35, h38, h40] at hK
            obtain ⟨hc, hm⟩ := hj
            rcases hm with ⟨n41, n34, n42, n43, n12, hF⟩ | ⟨l38, l40, l41, _⟩
            · have m34 : ¬ L_ 7 = true := by rw [n34]; decide
              have m42 : ¬ L_ 8 = true := by rw [n42]; decide
              have m43 : ¬ L_ 9 = true := by rw [n43]; decide
              have m12 : ¬ L_ 10 = true := by rw [n12]; decide
              have l38 : L_ 3 = true := hwt ⟨3, .data⟩ (by simp) rfl
              have l40 : L_ 5 = true := hwt ⟨5, .data⟩ (by simp) rfl
              go_simp
              refine Calls.mono (rcopy_any B r v n bs ds sz w_ (HRW1.out.new hF) (by have := HBB.out; have := HC1.out.size; have := hF.size; omega) hn hl) ?_
              rintro z w2 (⟨_, rfl, c3⟩ | ⟨hin, _⟩)
              rotate_left
              · exact absurd hin.1 HIN.out
              have c2 : Chg (Foot r v) w_ w2 := c3.mono (fun _ f => f.elim)
              exact hK.out _ w2 ⟨hc.trans c2 (fun z f => .inl f), .inr ⟨l38, l40, rfl, _, rfl, (fun e => absurd e m34), (fun e => absurd e m42), (fun e => absurd e m43), (fun e => absurd e m12), ⟨rfl, chg_then hF c3⟩⟩⟩ trivial
            · rw [l41] at hli; cases hli
          · show StepWS _ _ _ _ _ _ _ _ _ -- 34
            unfold StepWS
            intro L_ u w_ hj hli hwt hd K hK
            clear hd
            obtain ⟨hc, hm⟩ := hj
            have lopr : L_ 6 = true := hwt ⟨6, .data⟩ (by simp) rfl
            rcases hm with ⟨n41, n34, n42, n43, n12, hF⟩ | ⟨l38, l40, l41, ov, e41, q34, q42, q43, q12, hp⟩
            · rw [n41] at lopr; cases lopr
            · have eo := e41
              have HPH : Hid _ := hp
              clear hp
              simp only [eo] at hK ⊢
              go_simp
              exact hK.out _ _ ⟨hc, .inr ⟨l38, l40, l41, ov, e41, (fun _ => rfl), q42, q43, q12, HPH.out⟩⟩ trivial
          · show StepWS _ _ _ _ _ _ _ _ _ -- 42
            unfold StepWS
            intro L_ u w_ hj hli hwt hd K hK
            clear hd
            obtain ⟨hc, hm⟩ := hj
            have lopr : L_ 7 = true := hwt ⟨7, .data⟩ (by simp) rfl
            rcases hm with ⟨n41, n34, n42, n43, n12, hF⟩ | ⟨l38, l40, l41, ov, e41, q34, q42, q43, q12, hp⟩
            · rw [n34] at lopr; cases lopr
            · have eo := q34 lopr
              have HPH : Hid _ := hp
              clear hp
              simp only [eo, e41] at hK ⊢
              go_simp
              exact hK.out _ _ ⟨hc, .inr ⟨l38, l40, l41, ov, e41, q34, (fun _ => rfl), q43, q12, HPH.out⟩⟩ trivial
          · show StepWS _ _ _ _ _ _ _ _ _ -- 43
            unfold StepWS
            intro L_ u w_ hj hli hwt hd K hK
            clear hd
            obtain ⟨hc, hm⟩ := hj
            have lopr : L_ 7 = true := hwt ⟨7, .data⟩ (by simp) rfl
            rcases hm with ⟨n41, n34, n42, n43, n12, hF⟩ | ⟨l38, l40, l41, ov, e41, q34, q42, q43, q12, hp⟩
            · rw [n34] at lopr; cases lopr
            · have eo := q34 lopr
              have HPH : Hid _ := hp
              clear hp
              simp only [eo, e41] at hK ⊢
              go_simp
              exact hK.out _ _ ⟨hc, .inr ⟨l38, l40, l41, ov, e41, q34, q42, (fun _ => rfl), q12, HPH.out⟩⟩ trivial
          · show StepWS _ _ _ _ _ _ _ _ _ -- 12
            unfold StepWS
            intro L_ u w_ hj hli hwt hd K hK
            clear hd
            obtain ⟨hc, hm⟩ := hj
            have lopr : L_ 8 = true := hwt ⟨8, .data⟩ (by simp) rfl
            rcases hm with ⟨n41, n34, n42, n43, n12, hF⟩ | ⟨l38, l40, l41, ov, e41, q34, q42, q43, q12, hp⟩
            · rw [n42] at lopr; cases lopr
            · have eo := q42 lopr
              have HPH : Hid _ := hp
              clear hp
              simp only [eo, e41] at hK ⊢
              go_simp
              exact hK.out _ _ ⟨hc, .inr ⟨l38, l40, l41, ov, e41, q34, q42, q43, (fun _ => rfl), HPH.out⟩⟩ trivial
        · intro u w7 hj hA K hK
          obtain ⟨hc7, hm⟩ := hj
          rcases hm with ⟨n41, _⟩ | ⟨_, _, _, ov, e41, _, q42, q43, q12, hov, hp⟩
          · cases n41
          have e12 : u 12 = ov := q12 rfl
          have e43 : u 43 = .int .i64 7 := q43 rfl
          subst hov
          obtain ⟨⟨p0, f0⟩, ⟨p1, f1⟩, ⟨p2, f2⟩, ⟨p3, f3⟩, ⟨p4, f4⟩, hblk, hchg⟩ := put5_of (blk_keep HZ1.out hp (fun f => f)) (.int .i64 0) (.int .i64 0) (.int .i64 0) (.int .i64 0) (.int .i64 0)
          have HE : Hid _ := cells5 hblk
          have HCE : Hid (Chg (fun _ => False) w0 _) := (chg_then HC1.out hp).trans hchg (fun z e => .inr (by omega))
          clear hA hc7 e41 q42 q43 q12 hp hblk hchg HS1 HY1 HZ1 HC1 HNN HRW1
          simp only [e12, e43]
          go_simp
          refine hK.out _ _ ?_
          clear hK e12 e43
          go_wp2
          obtain ⟨q0, q1, q2, q3, q4⟩ := HE.out
          refine bodyPost_ret (v := .tuple #[.slice none 0 0, .agg #[.int .i64 0, .int .i64 0, .int .i64 0, .int .i64 0, .int .i64 0], .int .i64 7]) (by simp [results, Tryd.results22, go_sem, q0, q1, q2, q3, q4]) rfl ?_
          rw [HAQ.out]
          refine ⟨_, rfl, v, ⟨?_, World.ownsRow_nil _ _ _ _, fun g e => (nomatch e)⟩, HCE.out.mono (fun _ f => f.elim), fun g e => .inl e⟩
          rw [List.append_nil]
          exact HRW.out.new HCE.out
end Go.Proofs.YtlnocjicmofjfaaDoor
