/- The contract of step at Turn; of no statement by itself. -/
import Derived.Test.YtloenokbkmhceaaMade
import Derived.Test.YtloenokbkmhceaaLastP
import Derived.Test.YtloenokbkmhceaaMoves
namespace Go.Proofs.Ytloenokbkmhceaa
open Go.RowKit
set_option linter.unusedVariables false

theorem cell_keep {w w' : World} {S : Nat → Prop} {p : Addr} {v : Value} (h : w.cell? p = some v) (hc : Chg S w w') (hS : ¬ S p.block) : w'.cell? p = some v := by
  rw [World.cell?_of_block (w := w) (hc.block _ (World.block_lt_of_cell? w _ h) hS)]
  exact h

/-- The row x while it is turned: before, behind the program's Turn, behind both. -/
def TurnJ (W : World) (B : Nat) (x : It) (ys : List Int) : Nat → World → Prop
  | 0, w => St w B x.a x.v x.xs ∧ Rt w B x.r x.n x.u x.xs ∧ Chg (Foots x) W w
  | 1, w => St w B x.a x.v ys ∧ Rt w B x.r x.n x.u x.xs ∧ Chg (Foots x) W w
  | _, w => St w B x.a x.v ys ∧ Rt w B x.r x.n x.u ys ∧ Chg (Foots x) W w

set_option maxHeartbeats 4000000 in
set_option maxRecDepth 100000 in
theorem step_turn_in (w0 w : World) (P : Nat) (av bv : Value) (its : List It) (s : Nat) (i b : Int) (h : Play w0 w P av bv its) (hs : s < its.length) (hn : its.length ≤ 4398046510976) (j : Nat) (hj0 : j < its[s].xs.length) (hij : Hid (i = j)) : Calls Try.prog 19 #[.pointer (some ⟨P, 0, none⟩), .agg #[.int .i64 2, .int .i64 (s : Int), .int .i64 i, .int .i64 b]] w fun e w' => e = .returned (.bool true) ∧ Play w0 w' P av bv (its.set s ⟨its[s].a, its[s].r, its[s].v, its[s].n, its[s].u, its[s].xs.set j (Prob.nx its[s].xs[j] b)⟩) := by
  have hs0 : w0.heap.size ≤ w.heap.size := h.chg.size
  have hPl := lt_of_blk h.pair
  have hdS : decide ((s : Int) < 0) = false := by simp
  have hdL : decide (its.length ≤ s) = false := by simp; omega
  have hcW := chg_one w (.cells #[.int .i64 2, .int .i64 (s : Int), .int .i64 i, .int .i64 b] 50)
  have hb := heap_alloc_last w (.cells #[.int .i64 2, .int .i64 (s : Int), .int .i64 i, .int .i64 b] 50)
  obtain ⟨ga, capa, hav, hcapa, hA⟩ := h.a_at (by omega)
  obtain ⟨gb, capb, hbv, hcapb, hB⟩ := h.b_at (by omega)
  have pa := cell_chg (cell0 h.pair) hcW
  have pb := cell_chg (cell1 h.pair) hcW
  have xa := cell_chg (hA s hs) hcW
  have xb := cell_chg (hB s hs) hcW
  rw [hav] at pa
  rw [hbv] at pb
  have HP : Hid (Play w0 w P av bv its) := h
  have HFO : Hid (∀ z, Foots its[s] z → z ≠ w.heap.size) := fun z f => by
    rcases f with f | f
    · have := ((h.good s hs).st.own.lt z f).2
      omega
    · have := ((h.good s hs).rt.own.lt z f).2
      omega
  clear h hA hB hav hbv
  go_enter Try.func19, Try.ntmps19
  go_wp2_with fail
  have c0 : (w.alloc (.cells #[.int .i64 2, .int .i64 (s : Int), .int .i64 i, .int .i64 b] 50)).cell? ⟨w.heap.size, 0, none⟩ = some (.int .i64 2) := by simp only [World.cell?, hb]; rfl
  have c1 : (w.alloc (.cells #[.int .i64 2, .int .i64 (s : Int), .int .i64 i, .int .i64 b] 50)).cell? ⟨w.heap.size, 1, none⟩ = some (.int .i64 (s : Int)) := by simp only [World.cell?, hb]; rfl
  have c2 : (w.alloc (.cells #[.int .i64 2, .int .i64 (s : Int), .int .i64 i, .int .i64 b] 50)).cell? ⟨w.heap.size, 2, none⟩ = some (.int .i64 i) := by simp only [World.cell?, hb]; rfl
  have c3 : (w.alloc (.cells #[.int .i64 2, .int .i64 (s : Int), .int .i64 i, .int .i64 b] 50)).cell? ⟨w.heap.size, 3, none⟩ = some (.int .i64 b) := by simp only [World.cell?, hb]; rfl
  have HC : Hid (Chg (fun _ => False) w (w.alloc (.cells #[.int .i64 2, .int .i64 (s : Int), .int .i64 i, .int .i64 b] 50))) := hcW
  clear hb hcW
  generalize w.alloc (.cells #[.int .i64 2, .int .i64 (s : Int), .int .i64 i, .int .i64 b] 50) = W1 at *
  generalize w.heap.size = O at *
  go_quiet (fail)
  have HC2 : Hid (Chg (fun _ => False) w (W1.drewN nq)) := chg_then HC.out (chg_drewN W1 nq)
  have c02 := cell_chg c0 (chg_drewN W1 nq)
  have c12 := cell_chg c1 (chg_drewN W1 nq)
  have c22 := cell_chg c2 (chg_drewN W1 nq)
  have c32 := cell_chg c3 (chg_drewN W1 nq)
  have pa2 := cell_chg pa (chg_drewN W1 nq)
  have pb2 := cell_chg pb (chg_drewN W1 nq)
  have xa2 := cell_chg xa (chg_drewN W1 nq)
  have xb2 := cell_chg xb (chg_drewN W1 nq)
  clear c0 c1 c2 c3 pa pb xa xb HC
  generalize W1.drewN nq = W2 at *
  go_wp2_with fail
  go_quiet (fail)
  have HC3 : Hid (Chg (fun _ => False) w (W2.drewN nq)) := chg_then HC2.out (chg_drewN W2 nq)
  have c03 := cell_chg c02 (chg_drewN W2 nq)
  have c13 := cell_chg c12 (chg_drewN W2 nq)
  have c23 := cell_chg c22 (chg_drewN W2 nq)
  have c33 := cell_chg c32 (chg_drewN W2 nq)
  have pa3 := cell_chg pa2 (chg_drewN W2 nq)
  have pb3 := cell_chg pb2 (chg_drewN W2 nq)
  have xa3 := cell_chg xa2 (chg_drewN W2 nq)
  have xb3 := cell_chg xb2 (chg_drewN W2 nq)
  clear c02 c12 c22 c32 pa2 pb2 xa2 xb2 HC2
  generalize W2.drewN nq = W3 at *
  go_wp2_with fail
  go_quiet (fail)
  have HC4 : Hid (Chg (fun _ => False) w (W3.drewN nq)) := chg_then HC3.out (chg_drewN W3 nq)
  have c04 := cell_chg c03 (chg_drewN W3 nq)
  have c14 := cell_chg c13 (chg_drewN W3 nq)
  have c24 := cell_chg c23 (chg_drewN W3 nq)
  have c34 := cell_chg c33 (chg_drewN W3 nq)
  have pa4 := cell_chg pa3 (chg_drewN W3 nq)
  have pb4 := cell_chg pb3 (chg_drewN W3 nq)
  have xa4 := cell_chg xa3 (chg_drewN W3 nq)
  have xb4 := cell_chg xb3 (chg_drewN W3 nq)
  clear c03 c13 c23 c33 pa3 pb3 xa3 xb3 HC3
  generalize W3.drewN nq = W4 at *
  have HP4 : Hid (Play w0 W4 P av bv its) := HP.out.new HC4.out
  clear xa4 xb4 pa4 pb4
  go_wp2_with fail
  have hij2 := hij.out
  subst hij2
  have HJ : Hid (j < its[s].xs.length) := hj0
  have HG : Hid (Good W4 w0.heap.size its[s]) := HP4.out.good s hs
  obtain ⟨YS, hYS⟩ : ∃ ys, its[s].xs.set j (Prob.nx its[s].xs[j] b) = ys := ⟨_, rfl⟩
  have HYS : Hid (its[s].xs.set j (Prob.nx its[s].xs[j] b) = YS) := hYS
  clear hYS
  refine wp_region_phase (mk := fun u => #[_, _, _, _, _, _, _, _, _, _, _, _, _, _, _, _, _, _, _, _, _, _, _, _, _, _, _, _, _, _, _, _, _, _, _, _, _, _, _, _, _, _, _, _, _, _, _, _, _, _, _, _, _, _, _, _, _, _, _, _, _, _, _, _, _, _, _, _, _, _, _, _, _, _, _, _, u 76, u 77, u 78, u 79, u 80, u 81, u 82, u 83, u 84, u 85, u 86, u 87, u 88, _, _, _, _, _, _, _, _, _, _, _, _, _, _, _, _, _, _, _, _, _, _, _, _, _, _, _, _, _, _, _, _, _, _, _, _, _, _, _, _, _, _, _]) (G := lookG [(76, .pointer (some ⟨its[s].a, 0, none⟩)), (77, .pointer (some ⟨O, 2, none⟩)), (78, .int .i64 (j : Int)), (79, .pointer (some ⟨O, 3, none⟩)), (80, .int .i64 b), (81, .int .i64 0), (82, .pointer (some ⟨its[s].r, 0, none⟩)), (83, .pointer (some ⟨O, 2, none⟩)), (84, .int .i64 (j : Int)), (85, .pointer (some ⟨O, 3, none⟩)), (86, .int .i64 b), (87, .int .i64 0), (88, .bool true)]) (J := fun q _ w => (w.cell? ⟨O, 2, none⟩ = some (.int .i64 (j : Int)) ∧ w.cell? ⟨O, 3, none⟩ = some (.int .i64 b)) ∧ TurnJ W4 w0.heap.size its[s] YS q w) [5, 11] (fun _ => undef) rfl (by kernel_rfl) 13 _ rfl rfl (by kernel_rfl) (by kernel_rfl) (by kernel_rfl) (by decide) ?_ ?_ ?_ ?_ ?_
  · repeat (refine ⟨⟨_, rfl, fun _ _ => rfl⟩, ?_⟩)
    exact trivial
  · exact fun q u u2 w _ h => h
  · exact ⟨⟨cell_chg c24 (Chg.refl _ W4).drew, cell_chg c34 (Chg.refl _ W4).drew⟩, HG.out.st.new (Chg.refl _ W4).drew, HG.out.rt.new (Chg.refl _ W4).drew, (Chg.refl _ W4).drew⟩
  · refine ⟨?_, ?_, ?_, ?_, ?_, ?_, ?_, ?_, ?_, ?_, ?_, ?_, ?_, trivial⟩
    · show StepR _ _ _ _ _ _  _ -- 76
      unfold StepR
      intro q u w hj hd K hK
      clear hd
      go_simp
      exact hK.out (.pointer (some ⟨its[s].a, 0, none⟩)) rfl
    · show StepR _ _ _ _ _ _  _ -- 77
      unfold StepR
      intro q u w hj hd K hK
      clear hd
      go_simp
      exact hK.out (.pointer (some ⟨O, 2, none⟩)) rfl
    · show StepR _ _ _ _ _ _  _ -- 78
      unfold StepR
      intro q u w hj hd K hK
      have h77 : u 77 = .pointer (some ⟨O, 2, none⟩) := hd.get 1 (by kernel_rfl)
      clear hd
      simp only [h77] at hK
      have hcell := hj.1.1
      go_simp
      exact hK.out _ rfl
    · show StepR _ _ _ _ _ _  _ -- 79
      unfold StepR
      intro q u w hj hd K hK
      clear hd
      go_simp
      exact hK.out (.pointer (some ⟨O, 3, none⟩)) rfl
    · show StepR _ _ _ _ _ _  _ -- 80
      unfold StepR
      intro q u w hj hd K hK
      have h79 : u 79 = .pointer (some ⟨O, 3, none⟩) := hd.get 3 (by kernel_rfl)
      clear hd
      simp only [h79] at hK
      have hcell := hj.1.2
      go_simp
      exact hK.out _ rfl
    · show StepW _ _ _ _ _ _ 0 _ -- 81
      unfold StepW
      intro u w hj hd K hK
      have h76 : u 76 = .pointer (some ⟨its[s].a, 0, none⟩) := hd.get 0 (by kernel_rfl)
      have h78 : u 78 = .int .i64 (j : Int) := hd.get 2 (by kernel_rfl)
      have h80 : u 80 = .int .i64 b := hd.get 4 (by kernel_rfl)
      clear hd
      simp only [h76, h78, h80] at hK
      obtain ⟨⟨k2, k3⟩, hS, hR, hc⟩ := hj
      go_simp
      go_at_call 12
      refine (turn_in _ _ _ _ j b w hS HG.out.inn HJ.out).mono ?_
      rintro e w2 ⟨rfl, h2, c2⟩
      have n1 : ∀ z, its[s].v.ownBlock = some z → z ≠ O := fun z e => HFO.out z (.inl e)
      exact hK.out _ w2 ⟨⟨cell_keep k2 c2 (fun e => n1 _ e rfl), cell_keep k3 c2 (fun e => n1 _ e rfl)⟩, by rw [← HYS.out]; exact h2, hR.keep c2 (fun e => by obtain ⟨cs, hb⟩ := owns_blk hS.own e; exact ty_ne hb hR.blk (by decide)) (fun g e e2 => by obtain ⟨cs, hb⟩ := owns_blk hR.own e; obtain ⟨cs2, hb2⟩ := owns_blk hS.own e2; exact ty_ne hb hb2 (by decide)), hc.trans c2 (fun _ e => .inl (.inl e))⟩ rfl
    · show StepR _ _ _ _ _ _  _ -- 82
      unfold StepR
      intro q u w hj hd K hK
      clear hd
      go_simp
      exact hK.out (.pointer (some ⟨its[s].r, 0, none⟩)) rfl
    · show StepR _ _ _ _ _ _  _ -- 83
      unfold StepR
      intro q u w hj hd K hK
      clear hd
      go_simp
      exact hK.out (.pointer (some ⟨O, 2, none⟩)) rfl
    · show StepR _ _ _ _ _ _  _ -- 84
      unfold StepR
      intro q u w hj hd K hK
      have h83 : u 83 = .pointer (some ⟨O, 2, none⟩) := hd.get 7 (by kernel_rfl)
      clear hd
      simp only [h83] at hK
      have hcell := hj.1.1
      go_simp
      exact hK.out _ rfl
    · show StepR _ _ _ _ _ _  _ -- 85
      unfold StepR
      intro q u w hj hd K hK
      clear hd
      go_simp
      exact hK.out (.pointer (some ⟨O, 3, none⟩)) rfl
    · show StepR _ _ _ _ _ _  _ -- 86
      unfold StepR
      intro q u w hj hd K hK
      have h85 : u 85 = .pointer (some ⟨O, 3, none⟩) := hd.get 9 (by kernel_rfl)
      clear hd
      simp only [h85] at hK
      have hcell := hj.1.2
      go_simp
      exact hK.out _ rfl
    · show StepW _ _ _ _ _ _ 1 _ -- 87
      unfold StepW
      intro u w hj hd K hK
      have h82 : u 82 = .pointer (some ⟨its[s].r, 0, none⟩) := hd.get 6 (by kernel_rfl)
      have h84 : u 84 = .int .i64 (j : Int) := hd.get 8 (by kernel_rfl)
      have h86 : u 86 = .int .i64 b := hd.get 10 (by kernel_rfl)
      clear hd
      simp only [h82, h84, h86] at hK
      obtain ⟨⟨k2, k3⟩, hS, hR, hc⟩ := hj
      go_simp
      go_at_call 29
      refine (rturn_in _ _ _ _ _ j b w hR HG.out.inn HJ.out).mono ?_
      rintro e w2 ⟨rfl, h2, c2⟩
      have n1 : ∀ z, its[s].u.ownBlock = some z → z ≠ O := fun z e => HFO.out z (.inr e)
      exact hK.out _ w2 ⟨⟨cell_keep k2 c2 (fun e => n1 _ e rfl), cell_keep k3 c2 (fun e => n1 _ e rfl)⟩, hS.keep c2 (fun e => by obtain ⟨cs, hb⟩ := owns_blk hR.own e; exact ty_ne hb hS.blk (by decide)) (fun g e e2 => by obtain ⟨cs, hb⟩ := owns_blk hS.own e; obtain ⟨cs2, hb2⟩ := owns_blk hR.own e2; exact ty_ne hb hb2 (by decide)), by rw [← HYS.out]; exact h2, hc.trans c2 (fun _ e => .inl (.inr e))⟩ rfl
    · show StepR _ _ _ _ _ _  _ -- 88
      unfold StepR
      intro q u w hj hd K hK
      have h81 : u 81 = .int .i64 0 := hd.get 5 (by kernel_rfl)
      have h87 : u 87 = .int .i64 0 := hd.get 11 (by kernel_rfl)
      clear hd
      simp only [h81, h87] at hK
      go_simp
      exact hK.out (.bool true) rfl
  · intro u w hj hA K hK
    have e88 : u 88 = .bool true := hA.at 88 (by kernel_rfl)
    clear hA
    obtain ⟨_, hS, hR, hc⟩ := hj
    have HP6 : Hid (Play w0 w P av bv (its.set s ⟨its[s].a, its[s].r, its[s].v, its[s].n, its[s].u, YS⟩)) := HP4.out.put s hs hc YS ⟨hS, hR, by rw [← HYS.out]; exact HG.out.inn.set _ _ (Prob.nx_in _ _), by rw [← HYS.out, List.length_set]; exact HG.out.len⟩
    have HE : Hid (Play w0 w P av bv (its.set s ⟨its[s].a, its[s].r, its[s].v, its[s].n, its[s].u, its[s].xs.set j (Prob.nx its[s].xs[j] b)⟩)) := by
      have h := HP6.out
      rw [← HYS.out] at h
      exact h
    clear HP6 hS hR hc
    go_simp
    refine hK.out _ _ ?_
    go_simp
    go_wp2
    go_ret
    exact ⟨rfl, HE.out⟩

end Go.Proofs.Ytloenokbkmhceaa
