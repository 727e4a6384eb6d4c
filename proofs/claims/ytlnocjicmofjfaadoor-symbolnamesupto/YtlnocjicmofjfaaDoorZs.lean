/- The program's length and Size; of no statement by themselves. -/
import Derived.Test.YtlnocjicmofjfaaDoorYw
namespace Go.Proofs.YtlnocjicmofjfaaDoor
open Go.RowKit
open St12 Sy13
set_option linter.unusedVariables false
set_option linter.unusedSimpArgs false

variable {Tab : World → Prop}
theorem nxt_st0 (y : Sym) : (nxt st0 y).2 = formed y := by
  unfold nxt
  rw [if_neg (by decide)]
  split
  · rfl
  · next h => exact (Decidable.of_not_not h).symm
set_option maxHeartbeats 2000000 in
theorem tlen_q (k yb yl yd : Int) (hf : formed ⟨k, yb, yl, yd⟩ = 0) (w : World) : Calls Tryd.prog 41 #[.agg #[.int .i64 k, .int .u8 yb, .int .i64 yl, .int .i64 yd]] w fun e w' => e = .returned (.int .i64 (sizeA ⟨k, yb, yl, yd⟩)) ∧ Chg (fun _ => False) w w' := by
  have hk := formed_kind hf
  simp only at hk
  have HE : Hid (sizeA ⟨k, yb, yl, yd⟩ = if k = 2 ∨ k = 3 then yl else 1) := by show _ = _; unfold sizeA; rw [if_neg (by simp [hf])]
  clear hf
  rcases hk with rfl | ⟨rfl, _, _, _, _⟩ | ⟨rfl, _, _, _, _⟩ | rfl
  · go_enter Tryd.func41, Tryd.ntmps41
    go_wp2
    go_ret
    exact ⟨by rw [HE.out]; rfl, chg_one _ _⟩
  · go_enter Tryd.func41, Tryd.ntmps41
    go_wp2
    go_ret
    exact ⟨by rw [HE.out]; rfl, chg_one _ _⟩
  · go_enter Tryd.func41, Tryd.ntmps41
    go_wp2
    go_ret
    exact ⟨by rw [HE.out]; rfl, chg_one _ _⟩
  · go_enter Tryd.func41, Tryd.ntmps41
    go_wp2
    go_ret
    exact ⟨by rw [HE.out]; rfl, chg_one _ _⟩
set_option maxHeartbeats 4000000 in
set_option maxRecDepth 100000 in
theorem tsize_q (T : StSpec Tab) (k yb yl yd : Int) (hy : (⟨k, yb, yl, yd⟩ : Sym).I) (w : World) (hT : Tab w) : Calls Tryd.prog 13 #[.agg #[.int .i64 k, .int .u8 yb, .int .i64 yl, .int .i64 yd]] w fun e w' => e = .returned (.int .i64 (sizeA ⟨k, yb, yl, yd⟩)) ∧ Chg (fun _ => False) w w' := by
  have cB := chg_one w (.cells #[.int .i64 k, .int .u8 yb, .int .i64 yl, .int .i64 yd] 33)
  have HY : Hid ((w.alloc (.cells #[.int .i64 k, .int .u8 yb, .int .i64 yl, .int .i64 yd] 33)).heap[w.heap.size]? = some (.cells #[.int .i64 k, .int .u8 yb, .int .i64 yl, .int .i64 yd] 33 (0, 0))) := heap_alloc_last _ _
  have HC : Hid (Chg (fun _ => False) w (w.alloc (.cells #[.int .i64 k, .int .u8 yb, .int .i64 yl, .int .i64 yd] 33))) := cB
  have HT : Hid (Tab (w.alloc (.cells #[.int .i64 k, .int .u8 yb, .int .i64 yl, .int .i64 yd] 33))) := T.keep hT cB
  have HN0 : Hid (∀ w_, Tab w_ → Calls Tryd.prog 11 #[] w_ fun e w' => e = .returned (.agg #[.int .i64 0, .int .i64 1, .int .i64 1, .int .i64 1, .int .i64 1]) ∧ Chg (fun _ => False) w_ w') := T.new
  obtain ⟨t, er, hx⟩ : ∃ t er, nxt st0 ⟨k, yb, yl, yd⟩ = (t, er) := ⟨_, _, rfl⟩
  have HER : Hid (formed ⟨k, yb, yl, yd⟩ = er) := by have h9 := nxt_st0 ⟨k, yb, yl, yd⟩; rw [hx] at h9; exact h9.symm
  have HNX : Hid (∀ w_, Tab w_ → Calls Tryd.prog 12 #[.agg #[.int .i64 0, .int .i64 1, .int .i64 1, .int .i64 1, .int .i64 1], .agg #[.int .i64 k, .int .u8 yb, .int .i64 yl, .int .i64 yd]] w_ fun e w' => e = .returned (.tuple #[.agg #[.int .i64 t.n, .int .i64 t.a, .int .i64 t.b, .int .i64 t.c, .int .i64 t.d], .int .i64 er]) ∧ Chg (fun _ => False) w_ w') := fun w_ h => by
    have h9 := T.next st0 ⟨k, yb, yl, yd⟩ w_ h Stt.I.st0 hy
    rw [hx] at h9
    exact h9
  clear cB hT hx
  go_enter Tryd.func13, Tryd.ntmps13
  go_wp2_with fail
  generalize w.alloc (.cells #[.int .i64 k, .int .u8 yb, .int .i64 yl, .int .i64 yd] 33) = W0 at *
  refine wp_region_setM (mk := fun u => #[_, _, _, u 3, _, u 5, u 6, u 7, u 8, u 9, u 10, _, _, _, _]) (G := lookG [(6, .agg #[.int .i64 0, .int .i64 1, .int .i64 1, .int .i64 1, .int .i64 1]), (7, .agg #[.int .i64 k, .int .u8 yb, .int .i64 yl, .int .i64 yd])]) (J := fun L_ u ww => Chg (fun _ => False) W0 ww ∧ ((L_ 2 = false ∧ L_ 3 = false ∧ L_ 4 = false ∧ L_ 5 = false ∧ L_ 7 = false ∧ Chg (fun _ => False) W0 ww) ∨ (L_ 0 = true ∧ L_ 2 = true ∧ ∃ gz, u 8 = .tuple #[.agg #[.int .i64 t.n, .int .i64 t.a, .int .i64 t.b, .int .i64 t.c, .int .i64 t.d], .int .i64 er] ∧ (L_ 3 = true → u 5 = .tuple #[.agg #[.int .i64 t.n, .int .i64 t.a, .int .i64 t.b, .int .i64 t.c, .int .i64 t.d], .int .i64 er]) ∧ (L_ 4 = true → u 9 = .agg #[.int .i64 t.n, .int .i64 t.a, .int .i64 t.b, .int .i64 t.c, .int .i64 t.d]) ∧ (L_ 5 = true → u 10 = .int .i64 er) ∧ (gz = (0 : Nat)))) ∧ (L_ 6 = true → ∃ b7, u 3 = .pointer (some ⟨b7, 0, none⟩) ∧ W0.heap.size ≤ b7 ∧ ww.heap[b7]? = some (.cells (if L_ 7 = true then #[.int .i64 t.n, .int .i64 t.a, .int .i64 t.b, .int .i64 t.c, .int .i64 t.d] else #[.int .i64 0, .int .i64 0, .int .i64 0, .int .i64 0, .int .i64 0]) 30 (0, 0))) ∧ (L_ 7 = true → L_ 6 = true)) [0, 2, 3, 4, 5, 6, 7] ([]) (fun _ => undef) rfl (by kernel_rfl) 8 _ rfl rfl (by kernel_rfl) (by kernel_rfl) ?_ ?_ ?_ ?_ ?_
  · repeat (refine ⟨fun _ _ => rfl, ?_⟩)
    exact trivial
  · intro L_ L2 u u2 ww h hj
    have l0_ : L_ 0 = L2 0 := (h 0 (by decide)).1
    have l2_ : L_ 2 = L2 2 := (h 2 (by decide)).1
    have e2_ : u 8 = u2 8 := (h 2 (by decide)).2
    have l3_ : L_ 3 = L2 3 := (h 3 (by decide)).1
    have e3_ : u 5 = u2 5 := (h 3 (by decide)).2
    have l4_ : L_ 4 = L2 4 := (h 4 (by decide)).1
    have e4_ : u 9 = u2 9 := (h 4 (by decide)).2
    have l5_ : L_ 5 = L2 5 := (h 5 (by decide)).1
    have e5_ : u 10 = u2 10 := (h 5 (by decide)).2
    have l6_ : L_ 6 = L2 6 := (h 6 (by decide)).1
    have e6_ : u 3 = u2 3 := (h 6 (by decide)).2
    have l7_ : L_ 7 = L2 7 := (h 7 (by decide)).1
    show _ ∧ _
    rw [← l0_, ← l2_, ← e2_, ← l3_, ← e3_, ← l4_, ← e4_, ← l5_, ← e5_, ← l6_, ← e6_, ← l7_]
    exact hj
  · exact ⟨(Chg.refl _ W0).drew, .inl ⟨rfl, rfl, rfl, rfl, rfl, (Chg.refl _ W0).drew⟩, (fun h => nomatch h), (fun h => nomatch h)⟩
  · refine ⟨?_, ?_, ?_, ?_, ?_, ?_, ?_, ?_, trivial⟩
    · show StepWS _ _ _ _ _ _ _ _ _ -- 6
      unfold StepWS
      intro L_ u w_ hj hli hwt hd K hK
      clear hd
      obtain ⟨hc, hm, ha, hs⟩ := hj
      rcases hm with ⟨n8, n5, n9, n10, ns, hF⟩ | ⟨l6, l8, _⟩
      · go_simp
        refine Calls.mono (HN0.out w_ (T.keep HT.out hF)) ?_
        rintro z w2 ⟨rfl, c2⟩
        exact hK.out _ w2 ⟨hc.trans c2 (fun _ f => f.elim), .inl ⟨n8, n5, n9, n10, ns, chg_then hF c2⟩, (fun e => by obtain ⟨b7, e7, hb7, hk7⟩ := ha e; exact ⟨b7, e7, hb7, blk_keep hk7 c2 (fun f => f)⟩), hs⟩ rfl
      · rw [l6] at hli; cases hli
    · show StepRS _ _ _ _ _ _ _ _ -- 7
      unfold StepRS
      intro L_ u w_ hj hd K hK
      clear hd
      have hc := hj.1
      obtain ⟨x0, x1, x2, x3⟩ := cells4y (blk_keep HY.out hc (fun f => f))
      clear hj hc
      go_simp
      exact hK.out _ rfl
    · show StepWS _ _ _ _ _ _ _ _ _ -- 8
      unfold StepWS
      intro L_ u w_ hj hli hwt hd K hK
      have h6 : u 6 = .agg #[.int .i64 0, .int .i64 1, .int .i64 1, .int .i64 1, .int .i64 1] := hd.get 0 (by kernel_rfl)
      have h7 : u 7 = .agg #[.int .i64 k, .int .u8 yb, .int .i64 yl, .int .i64 yd] := hd.get 1 (by kernel_rfl)
      clear hd
      simp only [h6, h7] at hK
      obtain ⟨hc, hm, ha, hs⟩ := hj
      rcases hm with ⟨n8, n5, n9, n10, ns, hF⟩ | ⟨l6, l8, _⟩
      · have m5 : ¬ L_ 3 = true := by rw [n5]; decide
        have m9 : ¬ L_ 4 = true := by rw [n9]; decide
        have m10 : ¬ L_ 5 = true := by rw [n10]; decide
        have l6 : L_ 0 = true := hwt ⟨0, .data⟩ (by simp) rfl
        go_simp
        refine Calls.mono (HNX.out w_ (T.keep HT.out hF)) ?_
        rintro z w2 ⟨rfl, c2⟩
        skip
        exact hK.out _ w2 ⟨hc.trans c2 (fun z f => .inl f), .inr ⟨l6, rfl, 0, rfl, (fun e => absurd e m5), (fun e => absurd e m9), (fun e => absurd e m10), rfl⟩, (fun e => by obtain ⟨b7, e7, hb7, hk7⟩ := ha e; exact ⟨b7, e7, hb7, blk_keep hk7 c2 (fun f => f)⟩), hs⟩ trivial
      · rw [l8] at hli; cases hli
    · show StepWS _ _ _ _ _ _ _ _ _ -- 5
      unfold StepWS
      intro L_ u w_ hj hli hwt hd K hK
      clear hd
      obtain ⟨hc, hm, ha, hs⟩ := hj
      have lopr : L_ 2 = true := hwt ⟨2, .data⟩ (by simp) rfl
      rcases hm with ⟨n8, n5, n9, n10, ns, hF⟩ | ⟨l6, l8, gz, e8, q5, q9, q10, hp⟩
      · rw [n8] at lopr; cases lopr
      · have eo := e8
        have HPH : Hid _ := hp
        clear hp
        simp only [eo] at hK ⊢
        go_simp
        exact hK.out _ _ ⟨hc, .inr ⟨l6, l8, gz, e8, (fun _ => rfl), q9, q10, HPH.out⟩, ha, hs⟩ trivial
    · show StepWS _ _ _ _ _ _ _ _ _ -- 9
      unfold StepWS
      intro L_ u w_ hj hli hwt hd K hK
      clear hd
      obtain ⟨hc, hm, ha, hs⟩ := hj
      have lopr : L_ 3 = true := hwt ⟨3, .data⟩ (by simp) rfl
      rcases hm with ⟨n8, n5, n9, n10, ns, hF⟩ | ⟨l6, l8, gz, e8, q5, q9, q10, hp⟩
      · rw [n5] at lopr; cases lopr
      · have eo := q5 lopr
        have HPH : Hid _ := hp
        clear hp
        simp only [eo, e8] at hK ⊢
        go_simp
        exact hK.out _ _ ⟨hc, .inr ⟨l6, l8, gz, e8, q5, (fun _ => rfl), q10, HPH.out⟩, ha, hs⟩ trivial
    · show StepWS _ _ _ _ _ _ _ _ _ -- 10
      unfold StepWS
      intro L_ u w_ hj hli hwt hd K hK
      clear hd
      obtain ⟨hc, hm, ha, hs⟩ := hj
      have lopr : L_ 3 = true := hwt ⟨3, .data⟩ (by simp) rfl
      rcases hm with ⟨n8, n5, n9, n10, ns, hF⟩ | ⟨l6, l8, gz, e8, q5, q9, q10, hp⟩
      · rw [n5] at lopr; cases lopr
      · have eo := q5 lopr
        have HPH : Hid _ := hp
        clear hp
        simp only [eo, e8] at hK ⊢
        go_simp
        exact hK.out _ _ ⟨hc, .inr ⟨l6, l8, gz, e8, q5, q9, (fun _ => rfl), HPH.out⟩, ha, hs⟩ trivial
    · show StepWS _ _ _ _ _ _ _ _ _ -- 3
      unfold StepWS
      intro L_ u w_ hj hli hwt hd K hK
      clear hd
      obtain ⟨hc, hm, ha, hs⟩ := hj
      have nal_ : L_ 6 ≠ true := by rw [hli]; decide
      have nst_ : ¬ L_ 7 = true := fun e => nal_ (hs e)
      have c2 := chg_one w_ (.cells #[.int .i64 0, .int .i64 0, .int .i64 0, .int .i64 0, .int .i64 0] 30)
      rcases hm with ⟨n8, n5, n9, n10, ns, hF⟩ | ⟨l6, l8, gz, e8, q5, q9, q10, hp⟩
      · go_simp
        refine hK.out _ _ ⟨hc.trans c2 (fun _ f => f.elim), .inl ⟨n8, n5, n9, n10, ns, chg_then hF c2⟩, fun _ => ⟨_, rfl, hc.size, ?_⟩, fun _ => rfl⟩ trivial
        show _ = some (Obj.cells (if L_ 7 = true then #[.int .i64 t.n, .int .i64 t.a, .int .i64 t.b, .int .i64 t.c, .int .i64 t.d] else #[.int .i64 0, .int .i64 0, .int .i64 0, .int .i64 0, .int .i64 0]) 30 (0, 0))
        rw [if_neg nst_]
        exact heap_alloc_last _ _
      · have c := c2
        have HP := hp
        simp only [e8] at hK ⊢
        go_simp
        refine hK.out _ _ ⟨hc.trans c2 (fun _ f => f.elim), .inr ⟨l6, l8, gz, e8, q5, q9, q10, HP⟩, fun _ => ⟨_, rfl, hc.size, ?_⟩, fun _ => rfl⟩ trivial
        show _ = some (Obj.cells (if L_ 7 = true then #[.int .i64 t.n, .int .i64 t.a, .int .i64 t.b, .int .i64 t.c, .int .i64 t.d] else #[.int .i64 0, .int .i64 0, .int .i64 0, .int .i64 0, .int .i64 0]) 30 (0, 0))
        rw [if_neg nst_]
        exact heap_alloc_last _ _
    · show StepWS _ _ _ _ _ _ _ _ _ -- #7
      unfold StepWS
      intro L_ u w_ hj hli hwt hd K hK
      clear hd
      obtain ⟨hc, hm, ha, hs⟩ := hj
      have lal_ : L_ 6 = true := hwt ⟨6, .data⟩ (by simp) rfl
      have lopr : L_ 4 = true := hwt ⟨4, .data⟩ (by simp) rfl
      have nst_ : ¬ L_ 7 = true := by rw [hli]; decide
      rcases hm with ⟨n8, n5, n9, n10, ns, hF⟩ | ⟨l6, l8, gz, e8, q5, q9, q10, hp⟩
      · rw [n9] at lopr; cases lopr
      · have eo := q9 lopr
        obtain ⟨b7, e7, hb7, hk7⟩ := ha lal_
        rw [if_neg nst_] at hk7
        obtain ⟨⟨p0, f0⟩, ⟨p1, f1⟩, ⟨p2, f2⟩, ⟨p3, f3⟩, ⟨p4, f4⟩, hblk, c⟩ := put5_of hk7 (.int .i64 t.n) (.int .i64 t.a) (.int .i64 t.b) (.int .i64 t.c) (.int .i64 t.d)
        have hb := hk7
        have HP : Hid _ := hp
        have HL9 : Hid (L_ 6 = true) := lal_
        have HBK : Hid _ := hblk
        have HCH : Hid (Chg (fun _ => False) W0 _) := hc.trans c (fun z e => .inr (by omega))
        have HQ : Hid _ := (And.intro l6 (And.intro l8 (And.intro e8 (And.intro q5 (And.intro q9 q10)))))
        clear lal_ nst_ ha hs hblk c hc l6 l8 e8 q5 q9 q10 hp hk7 hb
        simp only [e7, eo] at hK ⊢
        go_simp
        obtain ⟨l6, l8, e8, q5, q9, q10⟩ := HQ.out
        exact hK.out undef _ ⟨HCH.out, .inr ⟨l6, l8, gz, e8, q5, q9, q10, HP.out⟩, fun _ => ⟨b7, e7, hb7, HBK.out⟩, fun _ => HL9.out⟩ trivial
  · intro u w7 hj hA K hK
    obtain ⟨hc7, hm, _, _⟩ := hj
    rcases hm with ⟨n8, _⟩ | ⟨_, _, gz, e8, _, _, q10, _⟩
    · cases n8
    have e10 : u 10 = .int .i64 er := q10 rfl
    have HC7 : Hid (Chg (fun _ => False) w w7) := chg_then HC.out hc7
    obtain ⟨y0, y1, y2, y3⟩ := cells4y (blk_keep HY.out hc7 (fun f => f))
    clear hA hc7 e8 q10 HY HC HT HN0 HNX
    simp only [e10]
    go_simp
    refine hK.out _ _ ?_
    clear hK e10
    by_cases he : er = 0
    · subst he
      have HLQ : Hid (∀ w_, Calls Tryd.prog 41 #[.agg #[.int .i64 k, .int .u8 yb, .int .i64 yl, .int .i64 yd]] w_ fun e w' => e = .returned (.int .i64 (sizeA ⟨k, yb, yl, yd⟩)) ∧ Chg (fun _ => False) w_ w') := tlen_q k yb yl yd HER.out
      clear HER
      go_wp2_with fail
      refine (HLQ.out _).mono ?_
      rintro z w8 ⟨rfl, c8⟩
      have HC8 : Hid _ := chg_then HC7.out c8
      clear c8
      go_wp2
      go_ret
      exact ⟨rfl, HC8.out⟩
    · have q0 : (er == 0) = false := by rw [beq_eq_false_iff_ne]; exact he
      have q0' : (er != 0) = true := by simp [he]
      have q0'' : decide (er = 0) = false := decide_eq_false he
      have HE : Hid (sizeA ⟨k, yb, yl, yd⟩ = 0) := by show _ = _; unfold sizeA; rw [if_pos (by rw [HER.out]; exact he)]
      go_wp2
      go_ret
      exact ⟨by rw [HE.out]; rfl, HC7.out⟩
end Go.Proofs.YtlnocjicmofjfaaDoor
