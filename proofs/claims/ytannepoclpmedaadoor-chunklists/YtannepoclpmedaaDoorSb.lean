/- The document's properties; of no statement by itself. -/
import Derived.Test.YtannepoclpmedaaDoorSa
namespace Go.Proofs.YtannepoclpmedaaDoor
open Go.RowKit
open St12
set_option linter.unusedVariables false
set_option linter.unusedSimpArgs false

set_option maxHeartbeats 2000000 in
theorem rallowed_q (lc lp pb : Int) (i1 : I64 lc) (i2 : I64 lp) (i3 : I64 pb) (w : World) : Calls Tryd.prog 44 #[.agg #[.int .i64 lc, .int .i64 lp, .int .i64 pb]] w fun e w' => e = .returned (.bool (decide (allow ⟨lc, lp, pb⟩))) ∧ Chg (fun _ => False) w w' := by
  by_cases h0 : 0 ≤ lc
  · have d0 : decide (0 ≤ lc) = true := decide_eq_true h0
    by_cases h1 : 0 ≤ lp
    · have d1 : decide (0 ≤ lp) = true := decide_eq_true h1
      by_cases h2 : 0 ≤ pb
      · have d2 : decide (0 ≤ pb) = true := decide_eq_true h2
        by_cases h3 : lc ≤ 4
        · have d3 : decide (lc ≤ 4) = true := decide_eq_true h3
          by_cases h4 : lp ≤ 4
          · have d4 : decide (lp ≤ 4) = true := decide_eq_true h4
            by_cases h5 : lc + lp ≤ 4
            · have d5 : decide (lc + lp ≤ 4) = true := decide_eq_true h5
              by_cases h6 : pb ≤ 4
              · have d6 : decide (pb ≤ 4) = true := decide_eq_true h6
                have hA : decide (allow ⟨lc, lp, pb⟩) = true := decide_eq_true (by unfold allow; simp only; omega)
                rw [hA]
                clear hA
                go_enter Tryd.func44, Tryd.ntmps44
                go_wp2
                go_ret
                exact ⟨rfl, chg_one _ _⟩
              · have d6 : decide (pb ≤ 4) = false := decide_eq_false h6
                have hA : decide (allow ⟨lc, lp, pb⟩) = false := decide_eq_false (by unfold allow; simp only; omega)
                rw [hA]
                clear hA h6
                go_enter Tryd.func44, Tryd.ntmps44
                go_wp2
                go_ret
                exact ⟨rfl, chg_one _ _⟩
            · have d5 : decide (lc + lp ≤ 4) = false := decide_eq_false h5
              have hA : decide (allow ⟨lc, lp, pb⟩) = false := decide_eq_false (by unfold allow; simp only; omega)
              rw [hA]
              clear hA h5
              go_enter Tryd.func44, Tryd.ntmps44
              go_wp2
              go_ret
              exact ⟨rfl, chg_one _ _⟩
          · have d4 : decide (lp ≤ 4) = false := decide_eq_false h4
            have hA : decide (allow ⟨lc, lp, pb⟩) = false := decide_eq_false (by unfold allow; simp only; omega)
            rw [hA]
            clear hA h4
            go_enter Tryd.func44, Tryd.ntmps44
            go_wp2
            go_ret
            exact ⟨rfl, chg_one _ _⟩
        · have d3 : decide (lc ≤ 4) = false := decide_eq_false h3
          have hA : decide (allow ⟨lc, lp, pb⟩) = false := decide_eq_false (by unfold allow; simp only; omega)
          rw [hA]
          clear hA h3
          go_enter Tryd.func44, Tryd.ntmps44
          go_wp2
          go_ret
          exact ⟨rfl, chg_one _ _⟩
      · have d2 : decide (0 ≤ pb) = false := decide_eq_false h2
        have hA : decide (allow ⟨lc, lp, pb⟩) = false := decide_eq_false (by unfold allow; simp only; omega)
        rw [hA]
        clear hA h2
        go_enter Tryd.func44, Tryd.ntmps44
        go_wp2
        go_ret
        exact ⟨rfl, chg_one _ _⟩
    · have d1 : decide (0 ≤ lp) = false := decide_eq_false h1
      have hA : decide (allow ⟨lc, lp, pb⟩) = false := decide_eq_false (by unfold allow; simp only; omega)
      rw [hA]
      clear hA h1
      go_enter Tryd.func44, Tryd.ntmps44
      go_wp2
      go_ret
      exact ⟨rfl, chg_one _ _⟩
  · have d0 : decide (0 ≤ lc) = false := decide_eq_false h0
    have hA : decide (allow ⟨lc, lp, pb⟩) = false := decide_eq_false (by unfold allow; simp only; omega)
    rw [hA]
    clear hA h0
    go_enter Tryd.func44, Tryd.ntmps44
    go_wp2
    go_ret
    exact ⟨rfl, chg_one _ _⟩
theorem cells3s {w : World} {a : Nat} {x y z : Value} {t : TypeId} (h : w.heap[a]? = some (.cells #[x, y, z] t (0, 0))) : w.cell? ⟨a, 0, none⟩ = some x ∧ w.cell? ⟨a, 1, none⟩ = some y ∧ w.cell? ⟨a, 2, none⟩ = some z ∧ w.frozen? ⟨a, 0, none⟩ = false ∧ w.frozen? ⟨a, 1, none⟩ = false ∧ w.frozen? ⟨a, 2, none⟩ = false :=
  ⟨by simp [World.cell?, h], by simp [World.cell?, h], by simp [World.cell?, h], by simp [World.frozen?, h], by simp [World.frozen?, h], by simp [World.frozen?, h]⟩
theorem set_blk {w : World} {g i : Nat} {cs : Array Value} {t : TypeId} (u : Value) (h : w.heap[g]? = some (.cells cs t (0, 0))) : (w.setCell ⟨g, i, none⟩ u).heap[g]? = some (.cells (cs.setIfInBounds i u) t (0, 0)) := by
  have hlt := lt_of_blk h
  have h' : w.heap[g] = .cells cs t (0, 0) := by simpa [Array.getElem?_eq_getElem hlt] using h
  show (w.heap.modify g _)[g]? = _
  rw [Array.getElem?_eq_getElem (by simpa using hlt), Array.getElem_modify_self, h']
  rfl
/-- A store of three cells. -/
theorem store3 {W : World} {g : Nat} {x y z : Value} {t : TypeId} (h : W.heap[g]? = some (.cells #[x, y, z] t (0, 0))) (a b c : Value) : (W.cell? ⟨g, 0, none⟩ = some x ∧ W.frozen? ⟨g, 0, none⟩ = false) ∧ ((W.setCell ⟨g, 0, none⟩ a).cell? ⟨g, 1, none⟩ = some y ∧ (W.setCell ⟨g, 0, none⟩ a).frozen? ⟨g, 1, none⟩ = false) ∧ (((W.setCell ⟨g, 0, none⟩ a).setCell ⟨g, 1, none⟩ b).cell? ⟨g, 2, none⟩ = some z ∧ ((W.setCell ⟨g, 0, none⟩ a).setCell ⟨g, 1, none⟩ b).frozen? ⟨g, 2, none⟩ = false) ∧
    ((((W.setCell ⟨g, 0, none⟩ a).setCell ⟨g, 1, none⟩ b).setCell ⟨g, 2, none⟩ c).heap[g]? = some (.cells #[a, b, c] t (0, 0)) ∧ Chg (fun q => q = g) W (((W.setCell ⟨g, 0, none⟩ a).setCell ⟨g, 1, none⟩ b).setCell ⟨g, 2, none⟩ c)) := by
  have h1 : (W.setCell ⟨g, 0, none⟩ a).heap[g]? = some (.cells #[a, y, z] t (0, 0)) := set_blk a h
  have h2 : ((W.setCell ⟨g, 0, none⟩ a).setCell ⟨g, 1, none⟩ b).heap[g]? = some (.cells #[a, b, z] t (0, 0)) := set_blk b h1
  have h3 : (((W.setCell ⟨g, 0, none⟩ a).setCell ⟨g, 1, none⟩ b).setCell ⟨g, 2, none⟩ c).heap[g]? = some (.cells #[a, b, c] t (0, 0)) := set_blk c h2
  have k0 := cells3s h
  have k1 := cells3s h1
  have k2 := cells3s h2
  exact ⟨⟨k0.1, k0.2.2.2.1⟩, ⟨k1.2.1, k1.2.2.2.2.1⟩, ⟨k2.2.2.1, k2.2.2.2.2.2⟩, h3, (((Chg.refl (fun q => q = g) W).setCell (p := ⟨g, 0, none⟩) (.inl rfl) a).setCell (p := ⟨g, 1, none⟩) (.inl rfl) b).setCell (p := ⟨g, 2, none⟩) (.inl rfl) c⟩
set_option maxHeartbeats 1000000 in
theorem rpb_q (lc lp pb : Int) (i1 : I64 lc) (i2 : I64 lp) (i3 : I64 pb) (w : World) : Calls Tryd.prog 31 #[.agg #[.int .i64 lc, .int .i64 lp, .int .i64 pb]] w fun e w' => e = .returned (.tuple #[.int .i64 (byteP ⟨lc, lp, pb⟩).1, .int .i64 (byteP ⟨lc, lp, pb⟩).2]) ∧ Chg (fun _ => False) w w' := by
  have cB := chg_one w (.cells #[.int .i64 lc, .int .i64 lp, .int .i64 pb] 23)
  have hbk := heap_alloc_last w (.cells #[.int .i64 lc, .int .i64 lp, .int .i64 pb] 23)
  have HA : Hid _ := rallowed_q lc lp pb i1 i2 i3 (w.alloc (.cells #[.int .i64 lc, .int .i64 lp, .int .i64 pb] 23))
  by_cases h : allow ⟨lc, lp, pb⟩
  · have e : byteP ⟨lc, lp, pb⟩ = ((5 * pb + lp) * 9 + lc, 0) := by unfold byteP; rw [if_pos h]
    rw [e]
    rw [decide_eq_true h] at HA
    obtain ⟨⟨b1, b2, b3⟩, b4, b5⟩ := h
    simp only at b1 b2 b3 b4 b5
    have b6 : lc ≤ 4 := by omega
    have b7 : lp ≤ 4 := by omega
    clear e
    go_enter Tryd.func31, Tryd.ntmps31
    go_wp2_with fail
    refine Calls.mono HA.out ?_
    rintro z w2 ⟨rfl, c2⟩
    obtain ⟨k0, k1, k2, _⟩ := cells3s (blk_keep hbk c2 (fun f => f))
    have HC : Hid (Chg (fun _ => False) w w2) := chg_then cB c2
    clear HA c2 hbk cB
    go_wp2
    go_ret2
    exact ⟨by go_num, HC.out⟩
  · have e : byteP ⟨lc, lp, pb⟩ = (0, 6) := by unfold byteP; rw [if_neg h]
    rw [e]
    rw [decide_eq_false h] at HA
    clear e
    go_enter Tryd.func31, Tryd.ntmps31
    go_wp2_with fail
    refine Calls.mono HA.out ?_
    rintro z w2 ⟨rfl, c2⟩
    have HC : Hid (Chg (fun _ => False) w w2) := chg_then cB c2
    clear HA c2 hbk cB
    go_wp2
    go_ret2
    exact ⟨rfl, HC.out⟩
theorem byteP_nat (p q r : Nat) (h : r + q ≤ 4) (hp : p ≤ 4) : byteP ⟨(r : Int), (q : Int), (p : Int)⟩ = ((((5 * p + q) * 9 + r : Nat) : Int), 0) := by
  unfold byteP
  rw [if_pos (by unfold allow; simp only; omega)]
  congr 1
/-- None of those that were tried has the byte. -/
def None3 (b : Int) (P Q R : Nat) : Prop := ∀ p : Prp, allow p → (p.pb < P ∨ (p.pb = P ∧ (p.lp < Q ∨ (p.lp = Q ∧ p.lc < R)))) → (5 * p.pb + p.lp) * 9 + p.lc ≠ b
theorem propsB_found {b : Int} {p : Prp} (h : allow p) (hb : (5 * p.pb + p.lp) * 9 + p.lc = b) : propsB b = (p, 0) := by
  have ht := told_of h
  rw [hb] at ht
  have hh := h
  obtain ⟨⟨h1, h2, h3⟩, h4, h5⟩ := hh
  unfold propsB
  rw [if_neg (by omega), ht, if_pos h]
theorem propsB_none {b : Int} (hb : 0 ≤ b ∧ b ≤ 255) (h : None3 b 5 0 0) : propsB b = (⟨0, 0, 0⟩, 2) := by
  unfold propsB
  rw [if_neg (by simpa using hb), if_neg]
  intro ha
  have hh := ha
  obtain ⟨⟨h1, h2, h3⟩, h4, h5⟩ := hh
  refine h (told b) ha (.inl (by show _ < ((5 : Nat) : Int); omega)) ?_
  refine of_told b ⟨hb.1, ?_⟩
  have : (told b).pb = b / 45 := rfl
  omega
set_option maxHeartbeats 4000000 in
set_option maxRecDepth 100000 in
theorem rbp_any (b : Int) (hb : I64 b) (w : World) : Calls Tryd.prog 32 #[.int .i64 b] w fun e w' => e = .returned (.tuple #[prv (propsB b).1, .int .i64 (propsB b).2]) ∧ Chg (fun _ => False) w w' := by
  have cB := chg_one w (.cells #[.int .i64 0, .int .i64 0, .int .i64 0] 23)
  have hbk := heap_alloc_last w (.cells #[.int .i64 0, .int .i64 0, .int .i64 0] 23)
  by_cases h : 0 ≤ b ∧ b ≤ 255
  · have hd1 : decide (b < 0) = false := decide_eq_false (by omega)
    have hd2 : decide (255 < b) = false := decide_eq_false (by omega)
    have HB : Hid (0 ≤ b ∧ b ≤ 255) := h
    have HC0 : Hid (Chg (fun _ => False) w (w.alloc (.cells #[.int .i64 0, .int .i64 0, .int .i64 0] 23))) := cB
    have HK0 : Hid ((w.alloc (.cells #[.int .i64 0, .int .i64 0, .int .i64 0] 23)).heap[w.heap.size]? = some (.cells #[.int .i64 0, .int .i64 0, .int .i64 0] 23 (0, 0))) := hbk
    clear h cB hbk
    go_enter Tryd.func32, Tryd.ntmps32
    go_wp2_with fail
    go_loopw [4] (fun v wr => ∃ P : Nat, P ≤ 5 ∧ v = .int .i64 (P : Int) ∧ Hid (None3 b P 0 0 ∧ Chg (fun _ => False) w wr ∧ wr.heap[w.heap.size]? = some (.cells #[.int .i64 0, .int .i64 0, .int .i64 0] 23 (0, 0)))) (fun v _ => 5 - (intOf v).toNat)
    case atStart =>
      refine ⟨0, by omega, rfl, fun p ha hp => ?_, HC0.out, HK0.out⟩
      obtain ⟨⟨h1, h2, h3⟩, h4, h5⟩ := ha
      omega
    case round =>
      clear HC0 HK0
      obtain ⟨P, hP, rfl, HI⟩ := hrel
      have hPi : (P : Int) ≤ 5 := by omega
      by_cases hP5 : P ≤ 4
      · have hd3 : decide ((P : Int) ≤ 4) = true := by simp; omega
        have hd3' : decide (P ≤ 4) = true := decide_eq_true hP5
        go_wp2_with fail
        go_loopw [5] (fun v wr2 => ∃ Q : Nat, Q ≤ 5 ∧ v = .int .i64 (Q : Int) ∧ Hid (None3 b P Q 0 ∧ Chg (fun _ => False) w wr2 ∧ wr2.heap[w.heap.size]? = some (.cells #[.int .i64 0, .int .i64 0, .int .i64 0] 23 (0, 0)))) (fun v _ => 5 - (intOf v).toNat)
        case atStart => exact ⟨0, by omega, rfl, HI.out⟩
        case round =>
          clear HI
          obtain ⟨Q, hQ, rfl, HI⟩ := hrel
          have hQi : (Q : Int) ≤ 5 := by omega
          by_cases hQ5 : Q ≤ 4
          · have hd4 : decide ((Q : Int) ≤ 4) = true := by simp; omega
            have hd4' : decide (Q ≤ 4) = true := decide_eq_true hQ5
            go_wp2_with fail
            go_loopw [6] (fun v wr3 => ∃ R : Nat, R + Q ≤ 5 ∧ v = .int .i64 (R : Int) ∧ Hid (None3 b P Q R ∧ Chg (fun _ => False) w wr3 ∧ wr3.heap[w.heap.size]? = some (.cells #[.int .i64 0, .int .i64 0, .int .i64 0] 23 (0, 0)))) (fun v _ => 6 - (intOf v).toNat)
            case atStart => exact ⟨0, by omega, rfl, HI.out⟩
            case round =>
              clear HI
              obtain ⟨R, hR, rfl, HI⟩ := hrel
              have hRi : (R : Int) ≤ 5 := by omega
              obtain ⟨S, hS⟩ : ∃ S, R + Q = S := ⟨_, rfl⟩
              have hSi : (R : Int) + (Q : Int) = (S : Int) := by omega
              by_cases hS4 : S ≤ 4
              · have hd5 : decide ((S : Int) ≤ 4) = true := by simp; omega
                have hd5' : decide (S ≤ 4) = true := decide_eq_true hS4
                have HP : Hid (Calls Tryd.prog 31 #[.agg #[.int .i64 (R : Int), .int .i64 (Q : Int), .int .i64 (P : Int)]] wr fun e w' => e = .returned (.tuple #[.int .i64 (((5 * P + Q) * 9 + R : Nat) : Int), .int .i64 0]) ∧ Chg (fun _ => False) wr w') := by
                  have := rpb_q (R : Int) (Q : Int) (P : Int) ⟨by omega, by omega⟩ ⟨by omega, by omega⟩ ⟨by omega, by omega⟩ wr
                  rw [byteP_nat P Q R (by omega) hP5] at this
                  exact this
                obtain ⟨B, hB⟩ : ∃ B, (5 * P + Q) * 9 + R = B := ⟨_, rfl⟩
                rw [hB] at HP
                have HBE : Hid ((5 * P + Q) * 9 + R = B ∧ R + Q = S) := ⟨hB, hS⟩
                clear hB hS
                go_wp2_with fail
                refine Calls.mono HP.out ?_
                rintro z w4 ⟨rfl, c4⟩
                have HI4 : Hid (None3 b P Q R ∧ Chg (fun _ => False) w w4 ∧ w4.heap[w.heap.size]? = some (.cells #[.int .i64 0, .int .i64 0, .int .i64 0] 23 (0, 0))) := ⟨HI.out.1, chg_then HI.out.2.1 c4, blk_keep HI.out.2.2 c4 (fun f => f)⟩
                clear HP HI c4
                by_cases hBb : (B : Int) = b
                · have hq : ((B : Int) == b) = true := by simp [hBb]
                  have hq2 : decide ((B : Int) = b) = true := decide_eq_true hBb
                  have HF : Hid (propsB b = (⟨(R : Int), (Q : Int), (P : Int)⟩, 0)) := by
                    have := HBE.out
                    refine propsB_found (by unfold allow; simp only; omega) ?_
                    simp only
                    omega
                  clear hBb
                  obtain ⟨⟨k0, f0⟩, ⟨k1, f1⟩, ⟨k2, f2⟩, hend, cS⟩ := store3 HI4.out.2.2 (.int .i64 (R : Int)) (.int .i64 (Q : Int)) (.int .i64 (P : Int))
                  have HE : Hid _ := cells3s hend
                  have HCE : Hid (Chg (fun _ => False) w _) := HI4.out.2.1.trans cS (fun z e => .inr (by omega))
                  clear hend cS
                  go_wp2
                  obtain ⟨q0, q1, q2, _⟩ := HE.out
                  refine bodyPost_ret (v := .tuple #[.agg #[.int .i64 (R : Int), .int .i64 (Q : Int), .int .i64 (P : Int)], .int .i64 0]) (by simp [results, Tryd.results32, go_sem, q0, q1, q2]) rfl ?_
                  exact ⟨by rw [HF.out]; rfl, HCE.out⟩
                · have hq : ((B : Int) == b) = false := by rw [beq_eq_false_iff_ne]; exact hBb
                  have hq2 : decide ((B : Int) = b) = false := decide_eq_false hBb
                  have HN : Hid (None3 b P Q (R + 1)) := fun p ha hp => by
                    have := HBE.out
                    by_cases e : p.pb = P ∧ p.lp = Q ∧ p.lc = R
                    · obtain ⟨e1, e2, e3⟩ := e
                      rw [e1, e2, e3]
                      omega
                    · exact HI4.out.1 p ha (by omega)
                  go_wp2_with fail
                  go_roundw
                  case rel => exact ⟨R + 1, by have := HBE.out; omega, by go_num, HN.out, HI4.out.2⟩
                  case measure => simp [intOf]; omega
              · have hd5 : decide ((S : Int) ≤ 4) = false := by simp; omega
                have hd5' : decide (S ≤ 4) = false := decide_eq_false hS4
                have HN : Hid (None3 b P (Q + 1) 0) := fun p ha hp => by
                  have hh := ha
                  obtain ⟨⟨h1, h2, h3⟩, h4, h5⟩ := hh
                  exact HI.out.1 p ha (by omega)
                clear hS
                go_wp2_with fail
                go_roundw
                case rel => exact ⟨Q + 1, by omega, by go_num, HN.out, HI.out.2⟩
                case measure => simp [intOf]; omega
          · have hd4 : decide ((Q : Int) ≤ 4) = false := by simp; omega
            have hd4' : decide (Q ≤ 4) = false := decide_eq_false hQ5
            have HN : Hid (None3 b (P + 1) 0 0) := fun p ha hp => by
              have hh := ha
              obtain ⟨⟨h1, h2, h3⟩, h4, h5⟩ := hh
              exact HI.out.1 p ha (by omega)
            go_wp2_with fail
            go_roundw
            case rel => exact ⟨P + 1, by omega, by go_num, HN.out, HI.out.2⟩
            case measure => simp [intOf]; omega
      · have hd3 : decide ((P : Int) ≤ 4) = false := by simp; omega
        have hd3' : decide (P ≤ 4) = false := decide_eq_false hP5
        have HF : Hid (propsB b = (⟨0, 0, 0⟩, 2)) := by
          have := HI.out.1
          rw [show P = 5 by omega] at this
          exact propsB_none HB.out this
        obtain ⟨⟨k0, f0⟩, ⟨k1, f1⟩, ⟨k2, f2⟩, hend, cS⟩ := store3 HI.out.2.2 (.int .i64 0) (.int .i64 0) (.int .i64 0)
        have HE : Hid _ := cells3s hend
        have HCE : Hid (Chg (fun _ => False) w _) := HI.out.2.1.trans cS (fun z e => .inr (by omega))
        clear hend cS
        go_wp2
        obtain ⟨q0, q1, q2, _⟩ := HE.out
        refine bodyPost_ret (v := .tuple #[.agg #[.int .i64 0, .int .i64 0, .int .i64 0], .int .i64 2]) (by simp [results, Tryd.results32, go_sem, q0, q1, q2]) rfl ?_
        exact ⟨by rw [HF.out]; rfl, HCE.out⟩
  · have HF : Hid (propsB b = (⟨0, 0, 0⟩, 7)) := by
      show _ = _
      unfold propsB
      rw [if_pos h]
    obtain ⟨q0, q1, q2, f0, f1, f2⟩ := cells3s hbk
    by_cases h0 : b < 0
    · have hd1 : decide (b < 0) = true := decide_eq_true h0
      clear h
      go_enter Tryd.func32, Tryd.ntmps32
      go_wp2
      refine bodyPost_ret (v := .tuple #[.agg #[.int .i64 0, .int .i64 0, .int .i64 0], .int .i64 7]) (by simp [results, Tryd.results32, go_sem, q0, q1, q2]) rfl ?_
      exact ⟨by rw [HF.out]; rfl, cB⟩
    · have hd1 : decide (b < 0) = false := decide_eq_false h0
      have hd2 : decide (255 < b) = true := decide_eq_true (by omega)
      clear h
      go_enter Tryd.func32, Tryd.ntmps32
      go_wp2
      refine bodyPost_ret (v := .tuple #[.agg #[.int .i64 0, .int .i64 0, .int .i64 0], .int .i64 7]) (by simp [results, Tryd.results32, go_sem, q0, q1, q2]) rfl ?_
      exact ⟨by rw [HF.out]; rfl, cB⟩
end Go.Proofs.YtannepoclpmedaaDoor
