/- StateBack; of no statement by itself. -/
import Derived.Test.YtkochonjfjlhpaaDoorSf
namespace Go.Proofs.YtkochonjfjlhpaaDoor
open Go.RowKit
open St12
set_option linter.unusedVariables false
set_option linter.unusedSimpArgs false

theorem heap2 (w : World) (o1 o2 : Obj) : ((w.alloc o1).alloc o2).heap[w.heap.size]? = some o1 ∧ ((w.alloc o1).alloc o2).heap[w.heap.size + 1]? = some o2 := by
  refine ⟨(Below.heap_alloc _ _ _ (by simp)).trans (heap_alloc_last w _), ?_⟩
  have := heap_alloc_last (w.alloc o1) o2
  rw [World.size_alloc] at this
  exact this
theorem byteP_inj {p q : Prp} (hp : allow p) (hq : allow q) : (byteP p).1 = (byteP q).1 ↔ p = q := by
  constructor
  · intro e
    unfold byteP at e
    rw [if_pos hp, if_pos hq] at e
    simp only at e
    rw [← told_of hp, ← told_of hq, e]
  · intro e; rw [e]
theorem byteP_back {p : Prp} (hp : allow p) : propsB (byteP p).1 = (p, 0) ∧ 0 ≤ (byteP p).1 ∧ (byteP p).1 ≤ 224 ∧ (byteP p).2 = 0 := by
  have e : byteP p = ((5 * p.pb + p.lp) * 9 + p.lc, 0) := by unfold byteP; rw [if_pos hp]
  rw [e]
  have hh := hp
  obtain ⟨⟨h1, h2, h3⟩, h4, h5⟩ := hh
  refine ⟨propsB_found hp rfl, ?_, ?_, rfl⟩
  · simp only; omega
  · simp only; omega
theorem byteP_not {p : Prp} (hp : ¬ allow p) : byteP p = (0, 6) := by unfold byteP; rw [if_neg hp]
set_option maxHeartbeats 4000000 in
theorem sback_any {Tab : World → Prop} (S : StSpec Tab) (lc lp pb mc mp nb : Int) (hp : (⟨lc, lp, pb⟩ : Prp).I) (hq : (⟨mc, mp, nb⟩ : Prp).I) (w : World) (hT : Tab w) : Calls Tryd.prog 4 #[.agg #[.int .i64 lc, .int .i64 lp, .int .i64 pb], .agg #[.int .i64 mc, .int .i64 mp, .int .i64 nb]] w fun e w' => e = .returned (.bool true) ∧ Chg (fun _ => False) w w' := by
  have cB : Chg (fun _ => False) w ((w.alloc (.cells #[.int .i64 lc, .int .i64 lp, .int .i64 pb] 30)).alloc (.cells #[.int .i64 mc, .int .i64 mp, .int .i64 nb] 30)) := ((Chg.refl _ w).alloc _).alloc _
  obtain ⟨hk1, hk2⟩ := heap2 w (.cells #[.int .i64 lc, .int .i64 lp, .int .i64 pb] 30) (.cells #[.int .i64 mc, .int .i64 mp, .int .i64 nb] 30)
  have HTB : Hid _ := S.keep hT cB
  have HCB : Hid _ := cB
  have HK : Hid (((w.alloc (.cells #[.int .i64 lc, .int .i64 lp, .int .i64 pb] 30)).alloc (.cells #[.int .i64 mc, .int .i64 mp, .int .i64 nb] 30)).heap[w.heap.size]? = some (.cells #[.int .i64 lc, .int .i64 lp, .int .i64 pb] 30 (0, 0)) ∧ ((w.alloc (.cells #[.int .i64 lc, .int .i64 lp, .int .i64 pb] 30)).alloc (.cells #[.int .i64 mc, .int .i64 mp, .int .i64 nb] 30)).heap[w.heap.size + 1]? = some (.cells #[.int .i64 mc, .int .i64 mp, .int .i64 nb] 30 (0, 0))) := ⟨hk1, hk2⟩
  have H1 : Hid (∀ w', Tab w' → Calls Tryd.prog 12 #[.agg #[.int .i64 lc, .int .i64 lp, .int .i64 pb]] w' fun e w'' => e = .returned (.tuple #[.int .i64 (byteP ⟨lc, lp, pb⟩).1, .int .i64 (byteP ⟨lc, lp, pb⟩).2]) ∧ Chg (fun _ => False) w' w'') := fun w' h => S.pb ⟨lc, lp, pb⟩ w' h hp
  have H2 : Hid (∀ w', Tab w' → Calls Tryd.prog 12 #[.agg #[.int .i64 mc, .int .i64 mp, .int .i64 nb]] w' fun e w'' => e = .returned (.tuple #[.int .i64 (byteP ⟨mc, mp, nb⟩).1, .int .i64 (byteP ⟨mc, mp, nb⟩).2]) ∧ Chg (fun _ => False) w' w'') := fun w' h => S.pb ⟨mc, mp, nb⟩ w' h hq
  have HFX : Hid (∀ w', Tab w' → Calls Tryd.prog 10 #[] w' fun e w'' => e = .returned (.bool true) ∧ Chg (fun _ => False) w' w'') := fun w' h => fixed_any S w' h
  clear hT cB hk1 hk2
  go_enter Tryd.func4, Tryd.ntmps4
  obtain ⟨k0, k1, k2, _⟩ := cells3 HK.out.1
  go_wp2_with fail
  clear k0 k1 k2
  generalize (w.alloc (.cells #[.int .i64 lc, .int .i64 lp, .int .i64 pb] 30)).alloc (.cells #[.int .i64 mc, .int .i64 mp, .int .i64 nb] 30) = W0 at *
  refine Calls.mono (H1.out _ HTB.out) ?_
  rintro z w1 ⟨rfl, c1⟩
  have HT1 : Hid (Tab w1) := S.keep HTB.out c1
  have HC1 : Hid (Chg (fun _ => False) w w1) := chg_then HCB.out c1
  have HK1 : Hid (w1.heap[w.heap.size]? = some (.cells #[.int .i64 lc, .int .i64 lp, .int .i64 pb] 30 (0, 0)) ∧ w1.heap[w.heap.size + 1]? = some (.cells #[.int .i64 mc, .int .i64 mp, .int .i64 nb] 30 (0, 0))) := ⟨blk_keep HK.out.1 c1 (fun f => f), blk_keep HK.out.2 c1 (fun f => f)⟩
  clear H1 c1 HTB HCB HK
  obtain ⟨k0, k1, k2, _⟩ := cells3 HK1.out.2
  go_wp2_with fail
  clear k0 k1 k2
  refine Calls.mono (H2.out _ HT1.out) ?_
  rintro z w2 ⟨rfl, c2⟩
  have HT2 : Hid (Tab w2) := S.keep HT1.out c2
  have HC2 : Hid (Chg (fun _ => False) w w2) := chg_then HC1.out c2
  have HK2 : Hid (w2.heap[w.heap.size]? = some (.cells #[.int .i64 lc, .int .i64 lp, .int .i64 pb] 30 (0, 0)) ∧ w2.heap[w.heap.size + 1]? = some (.cells #[.int .i64 mc, .int .i64 mp, .int .i64 nb] 30 (0, 0))) := ⟨blk_keep HK1.out.1 c2 (fun f => f), blk_keep HK1.out.2 c2 (fun f => f)⟩
  clear H2 c2 HT1 HC1 HK1
  by_cases ap : allow ⟨lc, lp, pb⟩
  · obtain ⟨b1, b2, b3, b4⟩ := byteP_back ap
    have HPQ : Hid (∀ B : Int, allow ⟨mc, mp, nb⟩ → (byteP ⟨mc, mp, nb⟩).1 = B → ((byteP ⟨lc, lp, pb⟩).1 = B ↔ lc = mc ∧ lp = mp ∧ pb = nb)) := fun B hq' e => by
      rw [← e, byteP_inj ap hq', Prp.mk.injEq]
    rw [b4]
    obtain ⟨A, hA⟩ : ∃ A, (byteP ⟨lc, lp, pb⟩).1 = A := ⟨_, rfl⟩
    rw [hA] at b1 b2 b3 HPQ ⊢
    have iA : I64 A := ⟨by omega, by omega⟩
    have H3 : Hid (∀ w', Tab w' → Calls Tryd.prog 13 #[.int .i64 A] w' fun e w'' => e = .returned (.tuple #[.agg #[.int .i64 lc, .int .i64 lp, .int .i64 pb], .int .i64 0]) ∧ Chg (fun _ => False) w' w'') := fun w' h => by
      have := S.bp A w' h iA
      rw [b1] at this
      exact this
    have dA0 : decide (A < 0) = false := decide_eq_false (by omega)
    have dA1 : decide (224 < A) = false := decide_eq_false (by omega)
    have qP := neq3 lc lp pb lc lp pb
    rw [show (!decide (lc = lc ∧ lp = lp ∧ pb = pb)) = false by simp] at qP
    clear hA b1 b2 b3 b4 ap
    go_wp2_with fail
    refine Calls.mono (H3.out _ HT2.out) ?_
    rintro z w3 ⟨rfl, c3⟩
    have cN := chg_one w3 (.cells #[.int .i64 lc, .int .i64 lp, .int .i64 pb] 30)
    have cc := chg_then c3 cN
    have hb3 := heap_alloc_last w3 (.cells #[.int .i64 lc, .int .i64 lp, .int .i64 pb] 30)
    have HT3 : Hid (Tab (w3.alloc (.cells #[.int .i64 lc, .int .i64 lp, .int .i64 pb] 30))) := S.keep HT2.out cc
    have HC3 : Hid (Chg (fun _ => False) w (w3.alloc (.cells #[.int .i64 lc, .int .i64 lp, .int .i64 pb] 30))) := chg_then HC2.out cc
    obtain ⟨k0, k1, k2, _⟩ := cells3 (blk_keep HK2.out.1 cc (fun f => f))
    obtain ⟨l0, l1, l2, _⟩ := cells3 (blk_keep HK2.out.2 cc (fun f => f))
    obtain ⟨m0, m1, m2, _⟩ := cells3 hb3
    clear H3 c3 cN cc HT2 HC2 HK2 hb3
    by_cases aq : allow ⟨mc, mp, nb⟩
    · have b5 := (byteP_back aq).2.2.2
      rw [b5]
      obtain ⟨B, hB⟩ : ∃ B, (byteP ⟨mc, mp, nb⟩).1 = B := ⟨_, rfl⟩
      rw [hB]
      have hiff := HPQ.out B aq hB
      have qQ := eq3 lc lp pb mc mp nb
      clear hB b5 aq HPQ
      by_cases he : A = B
      · rw [decide_eq_true (hiff.1 he)] at qQ
        subst he
        have qA : (A == A) = true := by simp
        clear hiff
        go_wp2_with fail
        refine Calls.mono (HFX.out _ HT3.out) ?_
        rintro z w9 ⟨rfl, c9⟩
        have HC9 : Hid (Chg (fun _ => False) w w9) := chg_then HC3.out c9
        clear HFX c9 HT3 HC3
        go_wp2
        go_ret
        exact ⟨rfl, HC9.out⟩
      · rw [decide_eq_false (fun h => he (hiff.2 h))] at qQ
        have qA : (A == B) = false := by rw [beq_eq_false_iff_ne]; exact he
        have qA' : decide (A = B) = false := decide_eq_false he
        clear hiff he
        go_wp2_with fail
        refine Calls.mono (HFX.out _ HT3.out) ?_
        rintro z w9 ⟨rfl, c9⟩
        have HC9 : Hid (Chg (fun _ => False) w w9) := chg_then HC3.out c9
        clear HFX c9 HT3 HC3
        go_wp2
        go_ret
        exact ⟨rfl, HC9.out⟩
    · rw [byteP_not aq]
      clear aq HPQ
      go_wp2_with fail
      refine Calls.mono (HFX.out _ HT3.out) ?_
      rintro z w9 ⟨rfl, c9⟩
      have HC9 : Hid (Chg (fun _ => False) w w9) := chg_then HC3.out c9
      clear HFX c9 HT3 HC3
      go_wp2
      go_ret
      exact ⟨rfl, HC9.out⟩
  · rw [byteP_not ap]
    clear ap
    go_wp2_with fail
    refine Calls.mono (HFX.out _ HT2.out) ?_
    rintro z w9 ⟨rfl, c9⟩
    have HC9 : Hid (Chg (fun _ => False) w w9) := chg_then HC2.out c9
    clear HFX c9 HT2 HC2
    go_wp2
    go_ret
    exact ⟨rfl, HC9.out⟩
end Go.Proofs.YtkochonjfjlhpaaDoor
