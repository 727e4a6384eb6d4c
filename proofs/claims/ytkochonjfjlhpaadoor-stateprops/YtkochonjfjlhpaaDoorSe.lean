/- StateSlots and StateProps; of no statement by themselves. -/
import Derived.Test.YtkochonjfjlhpaaDoorSb
import Derived.Test.YtkochonjfjlhpaaDoorSq
namespace Go.Proofs.YtkochonjfjlhpaaDoor
open Go.RowKit
open St12
set_option linter.unusedVariables false
set_option linter.unusedSimpArgs false

set_option maxHeartbeats 2000000 in
theorem slots_any {Tab : World → Prop} (S : StSpec Tab) (dist slot : Int) (hd : I64 dist) (hs : I64 slot) (w : World) (hT : Tab w) : Calls Tryd.prog 6 #[.int .i64 dist, .int .i64 slot] w fun e w' => e = .returned (.bool true) ∧ Chg (fun _ => False) w w' := by
  have H1 : Hid _ := S.slot dist w hT hd
  have H2 : Hid (∀ w', Calls Tryd.prog 19 #[.int .i64 dist] w' fun e w'' => e = .returned (.tuple #[.int .i64 (slotA dist).1, .int .i64 (slotA dist).2]) ∧ w'' = w') := fun w' => rslot_any dist hd w'
  have H3 : Hid (∀ w', Tab w' → Calls Tryd.prog 9 #[.int .i64 slot] w' fun e w'' => e = .returned (.tuple #[.int .i64 (rangeA slot).1, .int .i64 (rangeA slot).2.1, .int .i64 (rangeA slot).2.2]) ∧ Chg (fun _ => False) w' w'') := fun w' h => S.range slot w' h hs
  have H4 : Hid (∀ w', Calls Tryd.prog 20 #[.int .i64 slot] w' fun e w'' => e = .returned (.tuple #[.int .i64 (rangeA slot).1, .int .i64 (rangeA slot).2.1, .int .i64 (rangeA slot).2.2]) ∧ w'' = w') := fun w' => rrange_any slot hs w'
  have HFX : Hid (∀ w', Tab w' → Calls Tryd.prog 10 #[] w' fun e w'' => e = .returned (.bool true) ∧ Chg (fun _ => False) w' w'') := fun w' h => fixed_any S w' h
  have HT : Hid (Tab w) := hT
  obtain ⟨A, hA⟩ : ∃ A, (slotA dist).1 = A := ⟨_, rfl⟩
  obtain ⟨B, hB⟩ : ∃ B, (slotA dist).2 = B := ⟨_, rfl⟩
  obtain ⟨C, hC⟩ : ∃ C, (rangeA slot).1 = C := ⟨_, rfl⟩
  obtain ⟨D, hD⟩ : ∃ D, (rangeA slot).2.1 = D := ⟨_, rfl⟩
  obtain ⟨E, hE⟩ : ∃ E, (rangeA slot).2.2 = E := ⟨_, rfl⟩
  rw [hA, hB] at H1 H2
  rw [hC, hD, hE] at H3 H4
  have qA : (A == A) = true := by simp
  have qB : (B == B) = true := by simp
  have qC : (C == C) = true := by simp
  have qD : (D == D) = true := by simp
  have qE : (E == E) = true := by simp
  clear hA hB hC hD hE hT
  go_enter Tryd.func6, Tryd.ntmps6
  go_wp2_with fail
  refine Calls.mono H1.out ?_
  rintro z w1 ⟨rfl, c1⟩
  have HT1 : Hid (Tab w1) := S.keep HT.out c1
  have HC1 : Hid (Chg (fun _ => False) w w1) := c1
  clear H1 c1
  go_wp2_with fail
  refine Calls.mono (H2.out w1) ?_
  rintro z w2 ⟨rfl, rfl⟩
  clear H2
  go_wp2_with fail
  refine Calls.mono (H3.out _ HT1.out) ?_
  rintro z w3 ⟨rfl, c3⟩
  have HT3 : Hid (Tab w3) := S.keep HT1.out c3
  have HC3 : Hid (Chg (fun _ => False) w w3) := chg_then HC1.out c3
  clear H3 c3 HT1 HC1
  go_wp2_with fail
  refine Calls.mono (H4.out w3) ?_
  rintro z w4 ⟨rfl, rfl⟩
  clear H4
  go_wp2_with fail
  refine Calls.mono (HFX.out _ HT3.out) ?_
  rintro z w5 ⟨rfl, c5⟩
  have HC5 : Hid (Chg (fun _ => False) w w5) := chg_then HC3.out c5
  clear HFX c5 HT3 HC3
  go_wp2
  go_ret
  exact ⟨rfl, HC5.out⟩
set_option maxHeartbeats 2000000 in
theorem props_any {Tab : World → Prop} (S : StSpec Tab) (p : Prp) (b : Int) (hp : p.I) (hb : I64 b) (w : World) (hT : Tab w) : Calls Tryd.prog 7 #[prv p, .int .i64 b] w fun e w' => e = .returned (.bool true) ∧ Chg (fun _ => False) w w' := by
  obtain ⟨lc, lp, pb⟩ := p
  have cB := chg_one w (.cells #[.int .i64 lc, .int .i64 lp, .int .i64 pb] 30)
  have hbk := heap_alloc_last w (.cells #[.int .i64 lc, .int .i64 lp, .int .i64 pb] 30)
  have HK : Hid _ := hbk
  have HCB : Hid _ := cB
  have HTB : Hid _ := S.keep hT cB
  have H1 : Hid (∀ w', Tab w' → Calls Tryd.prog 12 #[.agg #[.int .i64 lc, .int .i64 lp, .int .i64 pb]] w' fun e w'' => e = .returned (.tuple #[.int .i64 (byteP ⟨lc, lp, pb⟩).1, .int .i64 (byteP ⟨lc, lp, pb⟩).2]) ∧ Chg (fun _ => False) w' w'') := fun w' h => S.pb ⟨lc, lp, pb⟩ w' h hp
  have H2 : Hid (∀ w', Calls Tryd.prog 21 #[.agg #[.int .i64 lc, .int .i64 lp, .int .i64 pb]] w' fun e w'' => e = .returned (.tuple #[.int .i64 (byteP ⟨lc, lp, pb⟩).1, .int .i64 (byteP ⟨lc, lp, pb⟩).2]) ∧ Chg (fun _ => False) w' w'') := fun w' => rpb_q lc lp pb hp.lc hp.lp hp.pb w'
  have H3 : Hid (∀ w', Tab w' → Calls Tryd.prog 13 #[.int .i64 b] w' fun e w'' => e = .returned (.tuple #[prv (propsB b).1, .int .i64 (propsB b).2]) ∧ Chg (fun _ => False) w' w'') := fun w' h => S.bp b w' h hb
  have H4 : Hid (∀ w', Calls Tryd.prog 22 #[.int .i64 b] w' fun e w'' => e = .returned (.tuple #[prv (propsB b).1, .int .i64 (propsB b).2]) ∧ Chg (fun _ => False) w' w'') := fun w' => rbp_any b hb w'
  have HFX : Hid (∀ w', Tab w' → Calls Tryd.prog 10 #[] w' fun e w'' => e = .returned (.bool true) ∧ Chg (fun _ => False) w' w'') := fun w' h => fixed_any S w' h
  obtain ⟨A, hA⟩ : ∃ A, (byteP ⟨lc, lp, pb⟩).1 = A := ⟨_, rfl⟩
  obtain ⟨B, hB⟩ : ∃ B, (byteP ⟨lc, lp, pb⟩).2 = B := ⟨_, rfl⟩
  obtain ⟨X, hX⟩ : ∃ X, (propsB b).1 = X := ⟨_, rfl⟩
  obtain ⟨E, hE⟩ : ∃ E, (propsB b).2 = E := ⟨_, rfl⟩
  rw [hA, hB] at H1 H2
  rw [hX, hE] at H3 H4
  obtain ⟨x0, x1, x2⟩ := X
  unfold prv at H3 H4
  simp only at H3 H4
  have qA : (A == A) = true := by simp
  have qB : (B == B) = true := by simp
  have qE : (E == E) = true := by simp
  have qX := eq3 x0 x1 x2 x0 x1 x2
  have qX' : decide (x0 = x0 ∧ x1 = x1 ∧ x2 = x2) = true := by simp
  rw [qX'] at qX
  obtain ⟨k0, k1, k2, _⟩ := cells3 HK.out
  clear hA hB hX hE hT qX' cB hbk
  unfold prv
  go_enter Tryd.func7, Tryd.ntmps7
  go_wp2_with fail
  generalize w.alloc (.cells #[.int .i64 lc, .int .i64 lp, .int .i64 pb] 30) = W0 at *
  refine Calls.mono (H1.out _ HTB.out) ?_
  rintro z w1 ⟨rfl, c1⟩
  have HT1 : Hid (Tab w1) := S.keep HTB.out c1
  have HC1 : Hid (Chg (fun _ => False) w w1) := chg_then HCB.out c1
  have k0 := cell_chg k0 c1
  have k1 := cell_chg k1 c1
  have k2 := cell_chg k2 c1
  clear H1 c1 HTB HCB HK
  go_wp2_with fail
  refine Calls.mono (H2.out w1) ?_
  rintro z w2 ⟨rfl, c2⟩
  have HT2 : Hid (Tab w2) := S.keep HT1.out c2
  have HC2 : Hid (Chg (fun _ => False) w w2) := chg_then HC1.out c2
  clear H2 c2 HT1 HC1 k0 k1 k2
  go_wp2_with fail
  refine Calls.mono (H3.out _ HT2.out) ?_
  rintro z w3 ⟨rfl, c3⟩
  have cN := chg_one w3 (.cells #[.int .i64 x0, .int .i64 x1, .int .i64 x2] 30)
  have hbx := heap_alloc_last w3 (.cells #[.int .i64 x0, .int .i64 x1, .int .i64 x2] 30)
  have HT3 : Hid (Tab (w3.alloc (.cells #[.int .i64 x0, .int .i64 x1, .int .i64 x2] 30))) := S.keep HT2.out (chg_then c3 cN)
  have HC3 : Hid (Chg (fun _ => False) w (w3.alloc (.cells #[.int .i64 x0, .int .i64 x1, .int .i64 x2] 30))) := chg_then HC2.out (chg_then c3 cN)
  clear H3 c3 HT2 HC2 cN
  go_wp2_with fail
  refine Calls.mono (H4.out _) ?_
  rintro z w4 ⟨rfl, c4⟩
  have cM := chg_one w4 (.cells #[.int .i64 x0, .int .i64 x1, .int .i64 x2] 30)
  have hby := heap_alloc_last w4 (.cells #[.int .i64 x0, .int .i64 x1, .int .i64 x2] 30)
  have hbx := blk_keep hbx (chg_then c4 cM) (fun f => f)
  have HT4 : Hid (Tab (w4.alloc (.cells #[.int .i64 x0, .int .i64 x1, .int .i64 x2] 30))) := S.keep HT3.out (chg_then c4 cM)
  have HC4 : Hid (Chg (fun _ => False) w (w4.alloc (.cells #[.int .i64 x0, .int .i64 x1, .int .i64 x2] 30))) := chg_then HC3.out (chg_then c4 cM)
  obtain ⟨m0, m1, m2, _⟩ := cells3 hbx
  obtain ⟨n0, n1, n2, _⟩ := cells3 hby
  clear H4 c4 HT3 HC3 cM hbx hby
  go_wp2_with fail
  refine Calls.mono (HFX.out _ HT4.out) ?_
  rintro z w5 ⟨rfl, c5⟩
  have HC5 : Hid (Chg (fun _ => False) w w5) := chg_then HC4.out c5
  clear HFX c5 HT4 HC4
  go_wp2
  go_ret
  exact ⟨rfl, HC5.out⟩
end Go.Proofs.YtkochonjfjlhpaaDoor
