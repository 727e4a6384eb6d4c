/- The program's Legal; of no statement by itself. -/
import Derived.Test.YtmkiohnabbfkcaaDoorCla
namespace Go.Proofs.YtmkiohnabbfkcaaDoor
open Go.RowKit
open St12
set_option linter.unusedVariables false
set_option linter.unusedSimpArgs false
theorem ix16 (k : Nat) (hk : k < 16) : ∀ w : World, (Instr.index 94 (.agg mk16) (.int .i64 k)).run Tryd.prog w = .ok (mk16.getD k undef) w := by
  rcases k with _ | _ | _ | _ | _ | _ | _ | _ | _ | _ | _ | _ | _ | _ | _ | _ | k
  all_goals first | omega | (intro _; kernel_rfl)
theorem gd16 (k : Nat) (hk : k < 16) : ∀ w : World, (eqGuard .eql 93 (.tmp 8) (.const .nilFunc) (mk16.getD k undef) .nilFunc).run Tryd.prog w = .ok () w := by
  rcases k with _ | _ | _ | _ | _ | _ | _ | _ | _ | _ | _ | _ | _ | _ | _ | _ | k
  all_goals first | omega | (intro _; kernel_rfl)
def nil16 : Nat → Bool
  | 0 | 1 | 4 | 10 => false
  | _ => true
theorem eq16 (k : Nat) (hk : k < 16) : ∀ w : World, (binOp .eql 93 (mk16.getD k undef) .nilFunc).run Tryd.prog w = .ok (.bool (nil16 k)) w := by
  rcases k with _ | _ | _ | _ | _ | _ | _ | _ | _ | _ | _ | _ | _ | _ | _ | _ | k
  all_goals first | omega | (intro _; kernel_rfl)
theorem nil16_is (k : Nat) (hk : k < 16) : nil16 k = !decide ((k : Int) = 0 ∨ (k : Int) = 1 ∨ (k : Int) = 4 ∨ (k : Int) = 10) := by
  rcases k with _ | _ | _ | _ | _ | _ | _ | _ | _ | _ | _ | _ | _ | _ | _ | _ | k
  all_goals first | omega | decide
set_option maxHeartbeats 8000000 in
set_option maxRecDepth 100000 in
theorem chk20_any (ch : Int) (w : World) : Calls Tryd.prog 33 #[.int .i64 ch] w fun e w' => ∃ r : Int, e = .returned (.int .i64 r) ∧ (r == 0) = decide (ch = 0 ∨ ch = 1 ∨ ch = 4 ∨ ch = 10) ∧ Chg (fun _ => False) w w' := by
  have HI : Hid _ := isKind20_q ch w
  by_cases hk : 0 ≤ ch ∧ ch < 16
  · rw [decide_eq_true hk] at HI
    have HM : Hid _ := makers20_q w
    obtain ⟨k, rfl⟩ : ∃ k : Nat, ch = (k : Int) := ⟨ch.toNat, by omega⟩
    have hki : (k : Int) < 16 := by omega
    have hix := ix16 k (by omega)
    have heq := eq16 k (by omega)
    have hgd := gd16 k (by omega)
    have HB : Hid (nil16 k = !decide ((k : Int) = 0 ∨ (k : Int) = 1 ∨ (k : Int) = 4 ∨ (k : Int) = 10)) := nil16_is k (by omega)
    generalize mk16.getD k undef = V at *
    generalize nil16 k = N at *
    clear hk
    cases N
    all_goals
      go_enter Tryd.func33, Tryd.ntmps33
      go_wp2_with fail
      refine Calls.mono HI.out ?_
      rintro z w1 ⟨rfl, rfl⟩
      go_wp2_with fail
      refine Calls.mono HM.out ?_
      rintro z w1 ⟨rfl, rfl⟩
      go_wp2
      go_ret
      refine ⟨_, rfl, ?_, chg_one _ _⟩
      have hB := HB.out
      revert hB
      generalize decide ((k : Int) = 0 ∨ (k : Int) = 1 ∨ (k : Int) = 4 ∨ (k : Int) = 10) = D
      cases D <;> decide
  · rw [decide_eq_false hk] at HI
    have HN : Hid (decide (ch = 0 ∨ ch = 1 ∨ ch = 4 ∨ ch = 10) = false) := decide_eq_false (by omega)
    clear hk
    go_enter Tryd.func33, Tryd.ntmps33
    go_wp2_with fail
    refine Calls.mono HI.out ?_
    rintro z w1 ⟨rfl, rfl⟩
    go_wp2
    go_ret
    exact ⟨6, rfl, by rw [HN.out]; rfl, Chg.refl _ _⟩
set_option maxHeartbeats 8000000 in
set_option maxRecDepth 100000 in
theorem legal20_any (ch de lc lp pb di bl mo : Int) (hI : (⟨ch, de, lc, lp, pb, di, bl, mo⟩ : Cfg).I) (w : World) : Calls Tryd.prog 17 #[.agg #[.int .i64 ch, .int .i64 de, .int .i64 lc, .int .i64 lp, .int .i64 pb, .int .i64 di, .int .i64 bl, .int .i64 mo]] w fun e w' => e = .returned (.int .i64 (Cn20.legal ⟨ch, de, lc, lp, pb, di, bl, mo⟩)) ∧ Chg (fun _ => False) w w' := by
  have cA := chg_one w (.cells #[.int .i64 ch, .int .i64 de, .int .i64 lc, .int .i64 lp, .int .i64 pb, .int .i64 di, .int .i64 bl, .int .i64 mo] 27)
  have bA := heap_alloc_last w (.cells #[.int .i64 ch, .int .i64 de, .int .i64 lc, .int .i64 lp, .int .i64 pb, .int .i64 di, .int .i64 bl, .int .i64 mo] 27)
  obtain ⟨q0, q1, q2, q3, q4, q5, q6, q7⟩ := cells8f bA
  have HBA : Hid ((w.alloc (.cells #[.int .i64 ch, .int .i64 de, .int .i64 lc, .int .i64 lp, .int .i64 pb, .int .i64 di, .int .i64 bl, .int .i64 mo] 27)).heap[w.heap.size]? = some (.cells #[.int .i64 ch, .int .i64 de, .int .i64 lc, .int .i64 lp, .int .i64 pb, .int .i64 di, .int .i64 bl, .int .i64 mo] 27 (0, 0))) := bA
  have HCA : Hid (Chg (fun _ => False) w (w.alloc (.cells #[.int .i64 ch, .int .i64 de, .int .i64 lc, .int .i64 lp, .int .i64 pb, .int .i64 di, .int .i64 bl, .int .i64 mo] 27))) := cA
  have HP : Hid _ := tpb_q lc lp pb hI.2.2.1 hI.2.2.2.1 hI.2.2.2.2.1 (w.alloc (.cells #[.int .i64 ch, .int .i64 de, .int .i64 lc, .int .i64 lp, .int .i64 pb, .int .i64 di, .int .i64 bl, .int .i64 mo] 27))
  have HL : Hid (Cn20.legal ⟨ch, de, lc, lp, pb, di, bl, mo⟩ = if (ch = 0 ∨ ch = 1 ∨ ch = 4 ∨ ch = 10) ∧ (0 ≤ lc ∧ 0 ≤ lp ∧ 0 ≤ pb ∧ lc ≤ 4 ∧ lp ≤ 4 ∧ lc + lp ≤ 4 ∧ pb ≤ 4) ∧ 0 ≤ de ∧ de ≤ 256 ∧ 4096 ≤ di ∧ di ≤ 67108864 ∧ 1 ≤ bl ∧ bl ≤ 2147483648 ∧ 0 ≤ mo ∧ mo ≤ 2 then 0 else 6) := rfl
  have HK : Hid (∀ ww, Calls Tryd.prog 33 #[.int .i64 ch] ww fun e w' => ∃ r : Int, e = .returned (.int .i64 r) ∧ (r == 0) = decide (ch = 0 ∨ ch = 1 ∨ ch = 4 ∨ ch = 10) ∧ Chg (fun _ => False) ww w') := fun ww => chk20_any ch ww
  clear cA bA
  by_cases ha : allow ⟨lc, lp, pb⟩
  rotate_left
  · have e : byteP ⟨lc, lp, pb⟩ = (0, 6) := by unfold byteP; rw [if_neg ha]
    rw [e] at HP
    have HN : Hid (Cn20.legal ⟨ch, de, lc, lp, pb, di, bl, mo⟩ = 6) := by show _ = _; rw [HL.out, if_neg]; rintro ⟨_, h, _⟩; apply ha; unfold allow; simp only; omega
    clear e ha HL
    go_enter Tryd.func17, Tryd.ntmps17
    go_wp2_with fail
    refine Calls.mono HP.out ?_
    rintro z w1 ⟨rfl, c1⟩
    go_wp2
    go_ret
    exact ⟨by rw [HN.out]; rfl, chg_then HCA.out c1⟩
  obtain ⟨y, e⟩ : ∃ y, byteP ⟨lc, lp, pb⟩ = (y, 0) := by unfold byteP; rw [if_pos ha]; exact ⟨_, rfl⟩
  rw [e] at HP
  have HAL : Hid (allow ⟨lc, lp, pb⟩) := ha
  clear e ha
  go_enter Tryd.func17, Tryd.ntmps17
  go_wp2_with fail
  refine Calls.mono HP.out ?_
  rintro z w1 ⟨rfl, c1⟩
  have HC1 : Hid (Chg (fun _ => False) w w1) := chg_then HCA.out c1
  have HB1 : Hid (w1.heap[w.heap.size]? = some (.cells #[.int .i64 ch, .int .i64 de, .int .i64 lc, .int .i64 lp, .int .i64 pb, .int .i64 di, .int .i64 bl, .int .i64 mo] 27 (0, 0))) := blk_keep HBA.out c1 (fun f => f)
  clear q0 q1 q2 q3 q4 q5 q6 q7 c1 HBA HCA HP
  have q0 := (cells8f HB1.out).1
  go_wp2_with fail
  refine Calls.mono (HK.out w1) ?_
  rintro z w2 ⟨r, rfl, hr, c2⟩
  have HC2 : Hid (Chg (fun _ => False) w w2) := chg_then HC1.out c2
  obtain ⟨k0, k1, k2, k3, k4, k5, k6, k7⟩ := cells8f (blk_keep HB1.out c2 (fun f => f))
  clear c2 HC1 HB1 q0
  obtain ⟨K, hK⟩ : ∃ K : Bool, decide (ch = 0 ∨ ch = 1 ∨ ch = 4 ∨ ch = 10) = K := ⟨_, rfl⟩
  rw [hK] at hr
  have HKK : Hid (decide (ch = 0 ∨ ch = 1 ∨ ch = 4 ∨ ch = 10) = K) := hK
  clear hK k0 k2 k3 k4 HK
  cases K with
  | false =>
    have HN : Hid (Cn20.legal ⟨ch, de, lc, lp, pb, di, bl, mo⟩ = 6) := by show _ = _; rw [HL.out, if_neg]; intro f; exact of_decide_eq_false HKK.out f.1
    clear HL
    go_wp2
    go_ret
    exact ⟨by rw [HN.out]; rfl, HC2.out⟩
  | true =>
    have HW0 : Hid _ := within20_q de 0 256 w2
    go_wp2_with fail
    refine Calls.mono HW0.out ?_
    rintro z w2 ⟨rfl, rfl⟩
    by_cases h0 : 0 ≤ de ∧ de ≤ 256
    rotate_left
    · have e0 : decide (0 ≤ de ∧ de ≤ 256) = false := decide_eq_false h0
      have HN : Hid (Cn20.legal ⟨ch, de, lc, lp, pb, di, bl, mo⟩ = 6) := by show _ = _; rw [HL.out, if_neg]; rintro ⟨_, _, f0, f1, f2, f3, f4, f5, f6, f7⟩; omega
      rw [e0]
      clear HL h0 e0
      go_wp2
      go_ret
      exact ⟨by rw [HN.out]; rfl, HC2.out⟩
    have e0 : decide (0 ≤ de ∧ de ≤ 256) = true := decide_eq_true h0
    have H0 : Hid (0 ≤ de ∧ de ≤ 256) := h0
    rw [e0]
    clear h0 e0 HW0
    have HW1 : Hid _ := within20_q di 4096 67108864 w2
    go_wp2_with fail
    refine Calls.mono HW1.out ?_
    rintro z w2 ⟨rfl, rfl⟩
    by_cases h1 : 4096 ≤ di ∧ di ≤ 67108864
    rotate_left
    · have e1 : decide (4096 ≤ di ∧ di ≤ 67108864) = false := decide_eq_false h1
      have HN : Hid (Cn20.legal ⟨ch, de, lc, lp, pb, di, bl, mo⟩ = 6) := by show _ = _; rw [HL.out, if_neg]; rintro ⟨_, _, f0, f1, f2, f3, f4, f5, f6, f7⟩; omega
      rw [e1]
      clear HL h1 e1
      go_wp2
      go_ret
      exact ⟨by rw [HN.out]; rfl, HC2.out⟩
    have e1 : decide (4096 ≤ di ∧ di ≤ 67108864) = true := decide_eq_true h1
    have H1 : Hid (4096 ≤ di ∧ di ≤ 67108864) := h1
    rw [e1]
    clear h1 e1 HW1
    have HW2 : Hid _ := within20_q bl 1 2147483648 w2
    go_wp2_with fail
    refine Calls.mono HW2.out ?_
    rintro z w2 ⟨rfl, rfl⟩
    by_cases h2 : 1 ≤ bl ∧ bl ≤ 2147483648
    rotate_left
    · have e2 : decide (1 ≤ bl ∧ bl ≤ 2147483648) = false := decide_eq_false h2
      have HN : Hid (Cn20.legal ⟨ch, de, lc, lp, pb, di, bl, mo⟩ = 6) := by show _ = _; rw [HL.out, if_neg]; rintro ⟨_, _, f0, f1, f2, f3, f4, f5, f6, f7⟩; omega
      rw [e2]
      clear HL h2 e2
      go_wp2
      go_ret
      exact ⟨by rw [HN.out]; rfl, HC2.out⟩
    have e2 : decide (1 ≤ bl ∧ bl ≤ 2147483648) = true := decide_eq_true h2
    have H2 : Hid (1 ≤ bl ∧ bl ≤ 2147483648) := h2
    rw [e2]
    clear h2 e2 HW2
    have HW3 : Hid _ := within20_q mo 0 2 w2
    go_wp2_with fail
    refine Calls.mono HW3.out ?_
    rintro z w2 ⟨rfl, rfl⟩
    by_cases h3 : 0 ≤ mo ∧ mo ≤ 2
    rotate_left
    · have e3 : decide (0 ≤ mo ∧ mo ≤ 2) = false := decide_eq_false h3
      have HN : Hid (Cn20.legal ⟨ch, de, lc, lp, pb, di, bl, mo⟩ = 6) := by show _ = _; rw [HL.out, if_neg]; rintro ⟨_, _, f0, f1, f2, f3, f4, f5, f6, f7⟩; omega
      rw [e3]
      clear HL h3 e3
      go_wp2
      go_ret
      exact ⟨by rw [HN.out]; rfl, HC2.out⟩
    have e3 : decide (0 ≤ mo ∧ mo ≤ 2) = true := decide_eq_true h3
    have H3 : Hid (0 ≤ mo ∧ mo ≤ 2) := h3
    rw [e3]
    clear h3 e3 HW3
    have HN : Hid (Cn20.legal ⟨ch, de, lc, lp, pb, di, bl, mo⟩ = 0) := by
      show _ = _
      obtain ⟨⟨b1, b2, b3⟩, b4, b5⟩ := HAL.out
      simp only at b1 b2 b3 b4 b5
      have g0 := H0.out
      have g1 := H1.out
      have g2 := H2.out
      have g3 := H3.out
      rw [HL.out, if_pos]
      exact ⟨of_decide_eq_true HKK.out, by omega, by omega, by omega, by omega, by omega, by omega, by omega, by omega, by omega⟩
    clear HL
    go_wp2
    go_ret
    exact ⟨by rw [HN.out]; rfl, HC2.out⟩
end Go.Proofs.YtmkiohnabbfkcaaDoor
