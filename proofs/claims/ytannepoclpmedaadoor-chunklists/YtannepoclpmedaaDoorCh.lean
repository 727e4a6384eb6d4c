/- The document's Get; of no statement by itself. -/
import Derived.Test.YtannepoclpmedaaDoorCg
import Derived.BigRegion
import Derived.BigQuiet
import Derived.Deep.QuietTactic
namespace Go.Proofs.YtannepoclpmedaaDoor
open Go.RowKit
open St12
set_option linter.unusedVariables false
set_option linter.unusedSimpArgs false
/-- A store of six cells. -/
theorem store6 {W : World} {g : Nat} {x0 x1 x2 x3 x4 x5 : Value} {t : TypeId} (h : W.heap[g]? = some (.cells #[x0, x1, x2, x3, x4, x5] t (0, 0))) (y0 y1 y2 y3 y4 y5 : Value) : (W.cell? ⟨g, 0, none⟩ = some x0 ∧ W.frozen? ⟨g, 0, none⟩ = false) ∧ ((W.setCell ⟨g, 0, none⟩ y0).cell? ⟨g, 1, none⟩ = some x1 ∧ (W.setCell ⟨g, 0, none⟩ y0).frozen? ⟨g, 1, none⟩ = false) ∧ (((W.setCell ⟨g, 0, none⟩ y0).setCell ⟨g, 1, none⟩ y1).cell? ⟨g, 2, none⟩ = some x2 ∧ ((W.setCell ⟨g, 0, none⟩ y0).setCell ⟨g, 1, none⟩ y1).frozen? ⟨g, 2, none⟩ = false) ∧ ((((W.setCell ⟨g, 0, none⟩ y0).setCell ⟨g, 1, none⟩ y1).setCell ⟨g, 2, none⟩ y2).cell? ⟨g, 3, none⟩ = some x3 ∧ (((W.setCell ⟨g, 0, none⟩ y0).setCell ⟨g, 1, none⟩ y1).setCell ⟨g, 2, none⟩ y2).frozen? ⟨g, 3, none⟩ = false) ∧ (((((W.setCell ⟨g, 0, none⟩ y0).setCell ⟨g, 1, none⟩ y1).setCell ⟨g, 2, none⟩ y2).setCell ⟨g, 3, none⟩ y3).cell? ⟨g, 4, none⟩ = some x4 ∧ ((((W.setCell ⟨g, 0, none⟩ y0).setCell ⟨g, 1, none⟩ y1).setCell ⟨g, 2, none⟩ y2).setCell ⟨g, 3, none⟩ y3).frozen? ⟨g, 4, none⟩ = false) ∧ ((((((W.setCell ⟨g, 0, none⟩ y0).setCell ⟨g, 1, none⟩ y1).setCell ⟨g, 2, none⟩ y2).setCell ⟨g, 3, none⟩ y3).setCell ⟨g, 4, none⟩ y4).cell? ⟨g, 5, none⟩ = some x5 ∧ (((((W.setCell ⟨g, 0, none⟩ y0).setCell ⟨g, 1, none⟩ y1).setCell ⟨g, 2, none⟩ y2).setCell ⟨g, 3, none⟩ y3).setCell ⟨g, 4, none⟩ y4).frozen? ⟨g, 5, none⟩ = false) ∧ ((((((W.setCell ⟨g, 0, none⟩ y0).setCell ⟨g, 1, none⟩ y1).setCell ⟨g, 2, none⟩ y2).setCell ⟨g, 3, none⟩ y3).setCell ⟨g, 4, none⟩ y4).setCell ⟨g, 5, none⟩ y5).heap[g]? = some (.cells #[y0, y1, y2, y3, y4, y5] t (0, 0)) ∧ Chg (fun q => q = g) W ((((((W.setCell ⟨g, 0, none⟩ y0).setCell ⟨g, 1, none⟩ y1).setCell ⟨g, 2, none⟩ y2).setCell ⟨g, 3, none⟩ y3).setCell ⟨g, 4, none⟩ y4).setCell ⟨g, 5, none⟩ y5) := by
  have h1 : (W.setCell ⟨g, 0, none⟩ y0).heap[g]? = some (.cells #[y0, x1, x2, x3, x4, x5] t (0, 0)) := blk_setk (l := [x0, x1, x2, x3, x4, x5]) h 0 y0
  have h2 : ((W.setCell ⟨g, 0, none⟩ y0).setCell ⟨g, 1, none⟩ y1).heap[g]? = some (.cells #[y0, y1, x2, x3, x4, x5] t (0, 0)) := blk_setk (l := [y0, x1, x2, x3, x4, x5]) h1 1 y1
  have h3 : (((W.setCell ⟨g, 0, none⟩ y0).setCell ⟨g, 1, none⟩ y1).setCell ⟨g, 2, none⟩ y2).heap[g]? = some (.cells #[y0, y1, y2, x3, x4, x5] t (0, 0)) := blk_setk (l := [y0, y1, x2, x3, x4, x5]) h2 2 y2
  have h4 : ((((W.setCell ⟨g, 0, none⟩ y0).setCell ⟨g, 1, none⟩ y1).setCell ⟨g, 2, none⟩ y2).setCell ⟨g, 3, none⟩ y3).heap[g]? = some (.cells #[y0, y1, y2, y3, x4, x5] t (0, 0)) := blk_setk (l := [y0, y1, y2, x3, x4, x5]) h3 3 y3
  have h5 : (((((W.setCell ⟨g, 0, none⟩ y0).setCell ⟨g, 1, none⟩ y1).setCell ⟨g, 2, none⟩ y2).setCell ⟨g, 3, none⟩ y3).setCell ⟨g, 4, none⟩ y4).heap[g]? = some (.cells #[y0, y1, y2, y3, y4, x5] t (0, 0)) := blk_setk (l := [y0, y1, y2, y3, x4, x5]) h4 4 y4
  have h6 : ((((((W.setCell ⟨g, 0, none⟩ y0).setCell ⟨g, 1, none⟩ y1).setCell ⟨g, 2, none⟩ y2).setCell ⟨g, 3, none⟩ y3).setCell ⟨g, 4, none⟩ y4).setCell ⟨g, 5, none⟩ y5).heap[g]? = some (.cells #[y0, y1, y2, y3, y4, y5] t (0, 0)) := blk_setk (l := [y0, y1, y2, y3, y4, x5]) h5 5 y5
  have f0 : W.frozen? ⟨g, 0, none⟩ = false := by simp [World.frozen?, h]
  have f1 : (W.setCell ⟨g, 0, none⟩ y0).frozen? ⟨g, 1, none⟩ = false := by simp [World.frozen?, h1]
  have f2 : ((W.setCell ⟨g, 0, none⟩ y0).setCell ⟨g, 1, none⟩ y1).frozen? ⟨g, 2, none⟩ = false := by simp [World.frozen?, h2]
  have f3 : (((W.setCell ⟨g, 0, none⟩ y0).setCell ⟨g, 1, none⟩ y1).setCell ⟨g, 2, none⟩ y2).frozen? ⟨g, 3, none⟩ = false := by simp [World.frozen?, h3]
  have f4 : ((((W.setCell ⟨g, 0, none⟩ y0).setCell ⟨g, 1, none⟩ y1).setCell ⟨g, 2, none⟩ y2).setCell ⟨g, 3, none⟩ y3).frozen? ⟨g, 4, none⟩ = false := by simp [World.frozen?, h4]
  have f5 : (((((W.setCell ⟨g, 0, none⟩ y0).setCell ⟨g, 1, none⟩ y1).setCell ⟨g, 2, none⟩ y2).setCell ⟨g, 3, none⟩ y3).setCell ⟨g, 4, none⟩ y4).frozen? ⟨g, 5, none⟩ = false := by simp [World.frozen?, h5]
  exact ⟨⟨(cells6 h).1, f0⟩, ⟨(cells6 h1).2.1, f1⟩, ⟨(cells6 h2).2.2.1, f2⟩, ⟨(cells6 h3).2.2.2.1, f3⟩, ⟨(cells6 h4).2.2.2.2.1, f4⟩, ⟨(cells6 h5).2.2.2.2.2, f5⟩, h6, (((((((Chg.refl (fun q => q = g) W).setCell (p := ⟨g, 0, none⟩) (.inl rfl) y0).setCell (p := ⟨g, 1, none⟩) (.inl rfl) y1).setCell (p := ⟨g, 2, none⟩) (.inl rfl) y2).setCell (p := ⟨g, 3, none⟩) (.inl rfl) y3).setCell (p := ⟨g, 4, none⟩) (.inl rfl) y4).setCell (p := ⟨g, 5, none⟩) (.inl rfl) y5)⟩
/-- A store of three cells in the middle. -/
theorem storeP {W : World} {g : Nat} {x0 x1 x2 x3 x4 x5 : Value} {t : TypeId} (h : W.heap[g]? = some (.cells #[x0, x1, x2, x3, x4, x5] t (0, 0))) (y3 y4 y5 : Value) : (W.cell? ⟨g, 3, none⟩ = some x3 ∧ W.frozen? ⟨g, 3, none⟩ = false) ∧ ((W.setCell ⟨g, 3, none⟩ y3).cell? ⟨g, 4, none⟩ = some x4 ∧ (W.setCell ⟨g, 3, none⟩ y3).frozen? ⟨g, 4, none⟩ = false) ∧ (((W.setCell ⟨g, 3, none⟩ y3).setCell ⟨g, 4, none⟩ y4).cell? ⟨g, 5, none⟩ = some x5 ∧ ((W.setCell ⟨g, 3, none⟩ y3).setCell ⟨g, 4, none⟩ y4).frozen? ⟨g, 5, none⟩ = false) ∧ (((W.setCell ⟨g, 3, none⟩ y3).setCell ⟨g, 4, none⟩ y4).setCell ⟨g, 5, none⟩ y5).heap[g]? = some (.cells #[x0, x1, x2, y3, y4, y5] t (0, 0)) ∧ Chg (fun q => q = g) W (((W.setCell ⟨g, 3, none⟩ y3).setCell ⟨g, 4, none⟩ y4).setCell ⟨g, 5, none⟩ y5) := by
  have h1 : (W.setCell ⟨g, 3, none⟩ y3).heap[g]? = some (.cells #[x0, x1, x2, y3, x4, x5] t (0, 0)) := blk_setk (l := [x0, x1, x2, x3, x4, x5]) h 3 y3
  have h2 : ((W.setCell ⟨g, 3, none⟩ y3).setCell ⟨g, 4, none⟩ y4).heap[g]? = some (.cells #[x0, x1, x2, y3, y4, x5] t (0, 0)) := blk_setk (l := [x0, x1, x2, y3, x4, x5]) h1 4 y4
  have h3 : (((W.setCell ⟨g, 3, none⟩ y3).setCell ⟨g, 4, none⟩ y4).setCell ⟨g, 5, none⟩ y5).heap[g]? = some (.cells #[x0, x1, x2, y3, y4, y5] t (0, 0)) := blk_setk (l := [x0, x1, x2, y3, y4, x5]) h2 5 y5
  exact ⟨⟨(cells6 h).2.2.2.1, by simp [World.frozen?, h]⟩, ⟨(cells6 h1).2.2.2.2.1, by simp [World.frozen?, h1]⟩, ⟨(cells6 h2).2.2.2.2.2, by simp [World.frozen?, h2]⟩, h3, (((Chg.refl (fun q => q = g) W).setCell (p := ⟨g, 3, none⟩) (.inl rfl) y3).setCell (p := ⟨g, 4, none⟩) (.inl rfl) y4).setCell (p := ⟨g, 5, none⟩) (.inl rfl) y5⟩
set_option maxHeartbeats 8000000 in
set_option maxRecDepth 100000 in
theorem rget17_any (ba : Option Addr) (n bc : Nat) (bs : List Nat) (w : World) (hr : Row8 w ba n bc (nums bs)) (hdg : Rc.Dig bs) (hn : n ≤ 140737488355328) : Calls Tryd.prog 21 #[.slice ba n bc] w fun e w' => e = .returned (.tuple #[chv (Ck17.getA bs).1, .int .i64 ((Ck17.getA bs).2.1 : Int), .int .i64 (Ck17.getA bs).2.2]) ∧ Chg (fun _ => False) w w' := by
  have hbl : bs.length = n := by have h9 := hr.1; rw [nums_len] at h9; exact h9
  have c0 := chg_one w (.cells #[.int .i64 0, .int .i64 0, .int .i64 0, .int .i64 0, .int .i64 0, .int .i64 0] 25)
  have b0 := heap_alloc_last w (.cells #[.int .i64 0, .int .i64 0, .int .i64 0, .int .i64 0, .int .i64 0, .int .i64 0] 25)
  have HC0 : Hid (Chg (fun _ => False) w (w.alloc (.cells #[.int .i64 0, .int .i64 0, .int .i64 0, .int .i64 0, .int .i64 0, .int .i64 0] 25))) := c0
  have HB0 : Hid ((w.alloc (.cells #[.int .i64 0, .int .i64 0, .int .i64 0, .int .i64 0, .int .i64 0, .int .i64 0] 25)).heap[w.heap.size]? = some (.cells #[.int .i64 0, .int .i64 0, .int .i64 0, .int .i64 0, .int .i64 0, .int .i64 0] 25 (0, 0))) := b0
  obtain ⟨z0, z1, z2, z3, z4, z5⟩ := cells6 b0
  have hni : (n : Int) ≤ 140737488355328 := by omega
  have HRW : Hid (Row8 w ba n bc (nums bs)) := hr
  have HBL : Hid (bs.length = n) := hbl
  have hcell : ∀ i, i < n → ∃ x, ba = some x ∧ w.cell? (x.add i) = some (.int .u8 ((Ck17.at_ bs i : Nat) : Int)) := fun i hi => by
    rcases hr.2 with ⟨_, e, _⟩ | ⟨x, e, hx⟩
    · omega
    · refine ⟨x, e, hx i _ ?_⟩
      have h9 : bs[i]? = some (Ck17.at_ bs i) := by unfold Ck17.at_; rw [List.getD_eq_getElem?_getD, List.getElem?_eq_getElem (by omega)]; rfl
      simp only [nums, List.map_map, List.getElem?_map, h9]
      rfl
  have HCE : Hid (∀ i, i < n → ∃ x, ba = some x ∧ w.cell? (x.add i) = some (.int .u8 ((Ck17.at_ bs i : Nat) : Int))) := hcell
  have HAT : Hid (∀ i, Ck17.at_ bs i < 256) := fun i => by
    unfold Ck17.at_
    rw [List.getD_eq_getElem?_getD]
    cases e : bs[i]? with
    | none => simp
    | some y => exact hdg y (List.mem_of_getElem? e)
  clear c0 b0 hr hdg hcell hbl
  by_cases h0 : n = 0
  · subst h0
    have HA : Hid (Ck17.getA bs = (Ck17.zeroC, 0, 1)) := by show _ = _; unfold Ck17.getA; rw [if_pos HBL.out]
    go_enter Tryd.func21, Tryd.ntmps21
    go_wp2
    refine bodyPost_ret (v := .tuple #[.agg #[.int .i64 0, .int .i64 0, .int .i64 0, .int .i64 0, .int .i64 0, .int .i64 0], .int .i64 0, .int .i64 1]) (by simp [results, Tryd.results21, go_sem]) rfl ?_
    exact ⟨by rw [HA.out]; rfl, HC0.out⟩
  · have d0 : ((n : Int) == 0) = false := by simp; omega
    obtain ⟨x, rfl, hx0⟩ := HCE.out 0 (by omega)
    obtain ⟨b, off, sp⟩ := x
    have hsp : sp = none := by simp [Addr.add] at hx0; exact World.cell?_spot hx0
    subst hsp
    have HCE2 : Hid (∀ i, i < n → w.cell? ⟨b, off + i, none⟩ = some (.int .u8 ((Ck17.at_ bs i : Nat) : Int))) := fun i hi => by
      obtain ⟨x, e, h9⟩ := HCE.out i hi
      injection e with e
      subst e
      rw [addk] at h9
      exact h9
    clear hx0 HCE
    have hc0 := cell_chg (HCE2.out 0 (by omega)) HC0.out
    rw [Nat.add_zero] at hc0
    have hi0 : (0 : Int) < (n : Int) := by omega
    obtain ⟨f, hf⟩ : ∃ f, Ck17.at_ bs 0 = f := ⟨_, rfl⟩
    have hf9 : (f : Int) ≤ 255 := by have := HAT.out 0; omega
    rw [hf] at hc0
    have HF : Hid (Ck17.at_ bs 0 = f) := hf
    clear hf
    by_cases h1 : f = 0
    · subst h1
      have HA : Hid (Ck17.getA bs = (Ck17.zeroC, 1, 0)) := by show _ = _; unfold Ck17.getA; rw [if_neg (by rw [HBL.out]; exact h0), if_pos HF.out]
      clear h0
      go_enter Tryd.func21, Tryd.ntmps21
      go_wp2
      refine bodyPost_ret (v := .tuple #[.agg #[.int .i64 0, .int .i64 0, .int .i64 0, .int .i64 0, .int .i64 0, .int .i64 0], .int .i64 1, .int .i64 0]) (by simp [results, Tryd.results21, go_sem]) rfl ?_
      exact ⟨by rw [HA.out]; rfl, HC0.out⟩
    · have d1 : ((f : Int) == 0) = false := by simp; omega
      by_cases h2 : 2 < f ∧ f < 128
      · have d2 : decide (2 < (f : Int)) = true := decide_eq_true (by omega)
        have d2' : decide (2 < f) = true := decide_eq_true (by omega)
        have d3 : decide ((f : Int) < 128) = true := decide_eq_true (by omega)
        have d3' : decide (f < 128) = true := decide_eq_true (by omega)
        have HA : Hid (Ck17.getA bs = (Ck17.zeroC, 0, 2)) := by show _ = _; unfold Ck17.getA; rw [if_neg (by rw [HBL.out]; exact h0), HF.out, if_neg h1, if_pos h2]
        clear h0 h1 h2
        go_enter Tryd.func21, Tryd.ntmps21
        go_wp2
        refine bodyPost_ret (v := .tuple #[.agg #[.int .i64 0, .int .i64 0, .int .i64 0, .int .i64 0, .int .i64 0, .int .i64 0], .int .i64 0, .int .i64 2]) (by simp [results, Tryd.results21, go_sem]) rfl ?_
        exact ⟨by rw [HA.out]; rfl, HC0.out⟩
      · by_cases h3 : f < 3
        · have d2 : decide (2 < (f : Int)) = false := decide_eq_false (by omega)
          have d2' : decide (2 < f) = false := decide_eq_false (by omega)
          have d4 : decide (128 ≤ (f : Int)) = false := decide_eq_false (by omega)
          have d4' : decide (128 ≤ f) = false := decide_eq_false (by omega)
          have d5 : decide (192 ≤ (f : Int)) = false := decide_eq_false (by omega)
          have d5' : decide (192 ≤ f) = false := decide_eq_false (by omega)
          have hw : Ck17.wantN f = 3 := by unfold Ck17.wantN; rw [if_neg h1, if_pos h3]
          by_cases h6 : n < 3
          · have d6 : decide ((n : Int) < 3) = true := decide_eq_true (by omega)
            have d6' : decide (n < 3) = true := decide_eq_true h6
            have HA : Hid (Ck17.getA bs = (Ck17.zeroC, 0, 1)) := by show _ = _; unfold Ck17.getA; rw [if_neg (by rw [HBL.out]; exact h0), HF.out, if_neg h1, if_neg h2, hw, if_pos (by rw [HBL.out]; exact h6)]
            clear h0 h1 h2 h3 hw
            go_enter Tryd.func21, Tryd.ntmps21
            go_wp2
            refine bodyPost_ret (v := .tuple #[.agg #[.int .i64 0, .int .i64 0, .int .i64 0, .int .i64 0, .int .i64 0, .int .i64 0], .int .i64 0, .int .i64 1]) (by simp [results, Tryd.results21, go_sem]) rfl ?_
            exact ⟨by rw [HA.out]; rfl, HC0.out⟩
          · have d6 : decide ((n : Int) < 3) = false := decide_eq_false (by omega)
            have d6' : decide (n < 3) = false := decide_eq_false h6
            have d7 : decide ((f : Int) < 3) = true := decide_eq_true (by omega)
            have d7' : decide (f < 3) = true := decide_eq_true h3
            have hc1 := cell_chg (HCE2.out 1 (by omega)) HC0.out
            have hc2 := cell_chg (HCE2.out 2 (by omega)) HC0.out
            have hi1 : (1 : Int) < (n : Int) := by omega
            have hi2 : (2 : Int) < (n : Int) := by omega
            have g1 := HAT.out 1
            have g2 := HAT.out 2
            obtain ⟨B1, hB1⟩ : ∃ f, Ck17.at_ bs 1 = f := ⟨_, rfl⟩
            obtain ⟨B2, hB2⟩ : ∃ f, Ck17.at_ bs 2 = f := ⟨_, rfl⟩
            have HA : Hid (Ck17.getA bs = (⟨(f : Int), ((256 * B1 + B2 + 1 : Nat) : Int), ((256 * B1 + B2 + 1 : Nat) : Int), 0, 0, 0⟩, 3, 0)) := by show _ = _; unfold Ck17.getA; rw [if_neg (by rw [HBL.out]; exact h0), HF.out, if_neg h1, if_neg h2, hw, if_neg (by rw [HBL.out]; exact h6), if_pos h3, hB1, hB2]
            rw [hB1] at hc1 g1
            rw [hB2] at hc2 g2
            have g1i : (B1 : Int) ≤ 255 := by omega
            have g2i : (B2 : Int) ≤ 255 := by omega
            have HSI : Hid (((256 * B1 + B2 + 1 : Nat) : Int) = 256 * (B1 : Int) + (B2 : Int) + 1) := by show _ = _; omega
            clear h0 h1 h2 h3 hw h6 hB1 hB2 g1 g2 HCE2
            go_enter Tryd.func21, Tryd.ntmps21
            go_upto_region 15 with fail
            generalize hW : w.alloc (.cells #[.int .i64 0, .int .i64 0, .int .i64 0, .int .i64 0, .int .i64 0, .int .i64 0] 25) = W0 at *
            go_quiet (fail)
            obtain ⟨⟨k0, f0⟩, ⟨k1, f1⟩, ⟨k2, f2⟩, ⟨k3, f3⟩, ⟨k4, f4⟩, ⟨k5, f5⟩, hend, cS⟩ := store6 (blk_keep HB0.out (chg_drewN W0 nq) (fun f => f)) (.int .i64 (f : Int)) (.int .i64 (256 * (B1 : Int) + (B2 : Int) + 1)) (.int .i64 (256 * (B1 : Int) + (B2 : Int) + 1)) (.int .i64 0) (.int .i64 0) (.int .i64 0)
            have HE : Hid _ := cells6 hend
            have HCS : Hid (Chg (fun _ => False) w _) := (chg_then HC0.out (chg_drewN W0 nq)).trans cS (fun z e => .inr (by omega))
            clear hend cS
            go_wp2
            obtain ⟨q0, q1, q2, q3, q4, q5⟩ := HE.out
            refine bodyPost_ret (v := .tuple #[.agg #[.int .i64 (f : Int), .int .i64 (256 * (B1 : Int) + (B2 : Int) + 1), .int .i64 (256 * (B1 : Int) + (B2 : Int) + 1), .int .i64 0, .int .i64 0, .int .i64 0], .int .i64 3, .int .i64 0]) (by simp [results, Tryd.results21, go_sem, q0, q1, q2, q3, q4, q5]) rfl ?_
            exact ⟨by rw [HA.out, HSI.out]; rfl, HCS.out⟩
        · by_cases h4 : f < 192
          · have d2 : decide (2 < (f : Int)) = true := decide_eq_true (by omega)
            have d2' : decide (2 < f) = true := decide_eq_true (by omega)
            have d3 : decide ((f : Int) < 128) = false := decide_eq_false (by omega)
            have d3' : decide (f < 128) = false := decide_eq_false (by omega)
            have d4 : decide (128 ≤ (f : Int)) = true := decide_eq_true (by omega)
            have d4' : decide (128 ≤ f) = true := decide_eq_true (by omega)
            have d5 : decide (192 ≤ (f : Int)) = false := decide_eq_false (by omega)
            have d5' : decide (192 ≤ f) = false := decide_eq_false (by omega)
            have hw : Ck17.wantN f = 5 := by unfold Ck17.wantN; rw [if_neg h1, if_neg h3, if_neg (by omega), if_pos h4]
            by_cases h6 : n < 5
            · have d6 : decide ((n : Int) < 5) = true := decide_eq_true (by omega)
              have d6' : decide (n < 5) = true := decide_eq_true h6
              have HA : Hid (Ck17.getA bs = (Ck17.zeroC, 0, 1)) := by show _ = _; unfold Ck17.getA; rw [if_neg (by rw [HBL.out]; exact h0), HF.out, if_neg h1, if_neg h2, hw, if_pos (by rw [HBL.out]; exact h6)]
              clear h0 h1 h2 h3 hw h4
              go_enter Tryd.func21, Tryd.ntmps21
              go_wp2
              refine bodyPost_ret (v := .tuple #[.agg #[.int .i64 0, .int .i64 0, .int .i64 0, .int .i64 0, .int .i64 0, .int .i64 0], .int .i64 0, .int .i64 1]) (by simp [results, Tryd.results21, go_sem]) rfl ?_
              exact ⟨by rw [HA.out]; rfl, HC0.out⟩
            · have d6 : decide ((n : Int) < 5) = false := decide_eq_false (by omega)
              have d6' : decide (n < 5) = false := decide_eq_false h6
              have d7 : decide ((f : Int) < 3) = false := decide_eq_false (by omega)
              have d7' : decide (f < 3) = false := decide_eq_false h3
              have hc1 := cell_chg (HCE2.out 1 (by omega)) HC0.out
              have hc2 := cell_chg (HCE2.out 2 (by omega)) HC0.out
              have hc3 := cell_chg (HCE2.out 3 (by omega)) HC0.out
              have hc4 := cell_chg (HCE2.out 4 (by omega)) HC0.out
              have hi1 : (1 : Int) < (n : Int) := by omega
              have hi2 : (2 : Int) < (n : Int) := by omega
              have hi3 : (3 : Int) < (n : Int) := by omega
              have hi4 : (4 : Int) < (n : Int) := by omega
              have g1 := HAT.out 1
              have g2 := HAT.out 2
              have g3 := HAT.out 3
              have g4 := HAT.out 4
              obtain ⟨B1, hB1⟩ : ∃ f, Ck17.at_ bs 1 = f := ⟨_, rfl⟩
              obtain ⟨B2, hB2⟩ : ∃ f, Ck17.at_ bs 2 = f := ⟨_, rfl⟩
              obtain ⟨B3, hB3⟩ : ∃ f, Ck17.at_ bs 3 = f := ⟨_, rfl⟩
              obtain ⟨B4, hB4⟩ : ∃ f, Ck17.at_ bs 4 = f := ⟨_, rfl⟩
              have HA : Hid (Ck17.getA bs = (⟨((3 + f / 32 - 4 : Nat) : Int), ((256 * B1 + B2 + 1 + 65536 * (f % 32) : Nat) : Int), ((256 * B3 + B4 + 1 : Nat) : Int), 0, 0, 0⟩, 5, 0)) := by show _ = _; unfold Ck17.getA; rw [if_neg (by rw [HBL.out]; exact h0), HF.out, if_neg h1, if_neg h2, hw, if_neg (by rw [HBL.out]; exact h6), if_neg h3, if_pos h4, hB1, hB2, hB3, hB4]
              rw [hB1] at hc1 g1
              rw [hB2] at hc2 g2
              rw [hB3] at hc3 g3
              rw [hB4] at hc4 g4
              have g1i : (B1 : Int) ≤ 255 := by omega
              have g2i : (B2 : Int) ≤ 255 := by omega
              have g3i : (B3 : Int) ≤ 255 := by omega
              have g4i : (B4 : Int) ≤ 255 := by omega
              obtain ⟨FD, hFD⟩ : ∃ z : Nat, f / 32 = z := ⟨_, rfl⟩
              obtain ⟨FM, hFM⟩ : ∃ z : Nat, f % 32 = z := ⟨_, rfl⟩
              have t1 : (f : Int).tdiv 32 = (FD : Int) := by rw [← hFD]; rfl
              have t2 : (f : Int).tmod 32 = (FM : Int) := by rw [← hFM]; rfl
              have hFDi : (FD : Int) ≤ 7 := by omega
              have hFD4 : 4 ≤ (FD : Int) := by omega
              have hFMi : (FM : Int) ≤ 31 := by omega
              rw [hFD, hFM] at HA
              have HSI : Hid (((256 * B1 + B2 + 1 + 65536 * FM : Nat) : Int) = 256 * (B1 : Int) + (B2 : Int) + 1 + 65536 * (FM : Int) ∧ ((256 * B3 + B4 + 1 : Nat) : Int) = 256 * (B3 : Int) + (B4 : Int) + 1 ∧ ((3 + FD - 4 : Nat) : Int) = 3 + (FD : Int) - 4) := ⟨by omega, by omega, by omega⟩
              clear h0 h1 h2 h3 hw h6 hB1 hB2 hB3 hB4 g1 g2 g3 g4 hFD hFM HCE2 h4
              go_enter Tryd.func21, Tryd.ntmps21
              go_upto_region 15 with fail
              generalize hW : w.alloc (.cells #[.int .i64 0, .int .i64 0, .int .i64 0, .int .i64 0, .int .i64 0, .int .i64 0] 25) = W0 at *
              go_quiet (fail)
              have e3 := cell_chg hc3 (chg_drewN W0 nq)
              have e4 := cell_chg hc4 (chg_drewN W0 nq)
              have HB1 : Hid ((W0.drewN nq).heap[w.heap.size]? = some (.cells #[.int .i64 0, .int .i64 0, .int .i64 0, .int .i64 0, .int .i64 0, .int .i64 0] 25 (0, 0))) := blk_keep HB0.out (chg_drewN W0 nq) (fun f => f)
              have HC1 : Hid (Chg (fun _ => False) w (W0.drewN nq)) := chg_then HC0.out (chg_drewN W0 nq)
              skip
              go_upto_region 18 with fail
              generalize W0.drewN nq = W1 at *
              have e3' := cell_chg e3 (chg_one W1 (.cells #[.int .i64 0, .int .i64 0, .int .i64 0, .int .i64 0, .int .i64 0, .int .i64 0] 25))
              have e4' := cell_chg e4 (chg_one W1 (.cells #[.int .i64 0, .int .i64 0, .int .i64 0, .int .i64 0, .int .i64 0, .int .i64 0] 25))
              clear hc0 hc1 hc2 hc3 hc4 z0 z1 z2 z3 z4 z5 HB0 HC0
              go_region
              have cV : Chg (fun _ => False) W1 ((W1.alloc (.cells #[.int .i64 (3 + (FD : Int) - 4), .int .i64 (256 * (B1 : Int) + (B2 : Int) + 1 + 65536 * (FM : Int)), .int .i64 (256 * (B3 : Int) + (B4 : Int) + 1), .int .i64 0, .int .i64 0, .int .i64 0] 25)).drew) := (chg_one W1 (.cells #[.int .i64 (3 + (FD : Int) - 4), .int .i64 (256 * (B1 : Int) + (B2 : Int) + 1 + 65536 * (FM : Int)), .int .i64 (256 * (B3 : Int) + (B4 : Int) + 1), .int .i64 0, .int .i64 0, .int .i64 0] 25)).drew
              have HV2 : Hid (((W1.alloc (.cells #[.int .i64 (3 + (FD : Int) - 4), .int .i64 (256 * (B1 : Int) + (B2 : Int) + 1 + 65536 * (FM : Int)), .int .i64 (256 * (B3 : Int) + (B4 : Int) + 1), .int .i64 0, .int .i64 0, .int .i64 0] 25)).drew).heap[W1.heap.size]? = some (.cells #[.int .i64 (3 + (FD : Int) - 4), .int .i64 (256 * (B1 : Int) + (B2 : Int) + 1 + 65536 * (FM : Int)), .int .i64 (256 * (B3 : Int) + (B4 : Int) + 1), .int .i64 0, .int .i64 0, .int .i64 0] 25 (0, 0))) := heap_alloc_last W1 _
              have HB2 : Hid (((W1.alloc (.cells #[.int .i64 (3 + (FD : Int) - 4), .int .i64 (256 * (B1 : Int) + (B2 : Int) + 1 + 65536 * (FM : Int)), .int .i64 (256 * (B3 : Int) + (B4 : Int) + 1), .int .i64 0, .int .i64 0, .int .i64 0] 25)).drew).heap[w.heap.size]? = some (.cells #[.int .i64 0, .int .i64 0, .int .i64 0, .int .i64 0, .int .i64 0, .int .i64 0] 25 (0, 0))) := blk_keep (S := fun _ => False) HB1.out cV (fun f => f)
              have HC2 : Hid (Chg (fun _ => False) w ((W1.alloc (.cells #[.int .i64 (3 + (FD : Int) - 4), .int .i64 (256 * (B1 : Int) + (B2 : Int) + 1 + 65536 * (FM : Int)), .int .i64 (256 * (B3 : Int) + (B4 : Int) + 1), .int .i64 0, .int .i64 0, .int .i64 0] 25)).drew)) := chg_then HC1.out cV
              have HNE : Hid (w.heap.size ≠ W1.heap.size) := by have := lt_of_blk HB1.out; show _ ≠ _; omega
              skip
              clear cV e3 e4 e3' e4' HB1 HC1
              generalize hWv : (W1.alloc (.cells #[.int .i64 (3 + (FD : Int) - 4), .int .i64 (256 * (B1 : Int) + (B2 : Int) + 1 + 65536 * (FM : Int)), .int .i64 (256 * (B3 : Int) + (B4 : Int) + 1), .int .i64 0, .int .i64 0, .int .i64 0] 25)).drew = W2 at *
              clear hWv
              generalize W1.heap.size = vb at *
              have HBZ : Hid _ := HB2.out
              have HVZ : Hid _ := HV2.out
              have HCZ : Hid _ := HC2.out
              obtain ⟨⟨k0, f0⟩, ⟨k1, f1⟩, ⟨k2, f2⟩, ⟨k3, f3⟩, ⟨k4, f4⟩, ⟨k5, f5⟩, hend, cS⟩ := store6 HBZ.out (.int .i64 (3 + (FD : Int) - 4)) (.int .i64 (256 * (B1 : Int) + (B2 : Int) + 1 + 65536 * (FM : Int))) (.int .i64 (256 * (B3 : Int) + (B4 : Int) + 1)) (.int .i64 0) (.int .i64 0) (.int .i64 0)
              obtain ⟨r0, r1, r2, r3, r4, r5⟩ := cells6 HVZ.out
              have HE : Hid _ := cells6 hend
              have HCS : Hid (Chg (fun _ => False) w _) := HCZ.out.trans cS (fun z e => .inr (by omega))
              clear hend cS
              go_wp2
              obtain ⟨q0, q1, q2, q3, q4, q5⟩ := HE.out
              refine bodyPost_ret (v := .tuple #[.agg #[.int .i64 (3 + (FD : Int) - 4), .int .i64 (256 * (B1 : Int) + (B2 : Int) + 1 + 65536 * (FM : Int)), .int .i64 (256 * (B3 : Int) + (B4 : Int) + 1), .int .i64 0, .int .i64 0, .int .i64 0], .int .i64 5, .int .i64 0]) (by simp [results, Tryd.results21, go_sem, q0, q1, q2, q3, q4, q5]) rfl ?_
              exact ⟨by rw [HA.out, HSI.out.1, HSI.out.2.1, HSI.out.2.2]; rfl, HCS.out⟩
          · have d2 : decide (2 < (f : Int)) = true := decide_eq_true (by omega)
            have d2' : decide (2 < f) = true := decide_eq_true (by omega)
            have d3 : decide ((f : Int) < 128) = false := decide_eq_false (by omega)
            have d3' : decide (f < 128) = false := decide_eq_false (by omega)
            have d4 : decide (128 ≤ (f : Int)) = true := decide_eq_true (by omega)
            have d4' : decide (128 ≤ f) = true := decide_eq_true (by omega)
            have d5 : decide (192 ≤ (f : Int)) = true := decide_eq_true (by omega)
            have d5' : decide (192 ≤ f) = true := decide_eq_true (by omega)
            have hw : Ck17.wantN f = 6 := by unfold Ck17.wantN; rw [if_neg h1, if_neg h3, if_neg (by omega), if_neg h4]
            by_cases h6 : n < 6
            · have d6 : decide ((n : Int) < 6) = true := decide_eq_true (by omega)
              have d6' : decide (n < 6) = true := decide_eq_true h6
              have HA : Hid (Ck17.getA bs = (Ck17.zeroC, 0, 1)) := by show _ = _; unfold Ck17.getA; rw [if_neg (by rw [HBL.out]; exact h0), HF.out, if_neg h1, if_neg h2, hw, if_pos (by rw [HBL.out]; exact h6)]
              clear h0 h1 h2 h3 hw h4
              go_enter Tryd.func21, Tryd.ntmps21
              go_wp2
              refine bodyPost_ret (v := .tuple #[.agg #[.int .i64 0, .int .i64 0, .int .i64 0, .int .i64 0, .int .i64 0, .int .i64 0], .int .i64 0, .int .i64 1]) (by simp [results, Tryd.results21, go_sem]) rfl ?_
              exact ⟨by rw [HA.out]; rfl, HC0.out⟩
            · have d6 : decide ((n : Int) < 6) = false := decide_eq_false (by omega)
              have d6' : decide (n < 6) = false := decide_eq_false h6
              have d7 : decide ((f : Int) < 3) = false := decide_eq_false (by omega)
              have d7' : decide (f < 3) = false := decide_eq_false h3
              have hc1 := cell_chg (HCE2.out 1 (by omega)) HC0.out
              have hc2 := cell_chg (HCE2.out 2 (by omega)) HC0.out
              have hc3 := cell_chg (HCE2.out 3 (by omega)) HC0.out
              have hc4 := cell_chg (HCE2.out 4 (by omega)) HC0.out
              have hi1 : (1 : Int) < (n : Int) := by omega
              have hi2 : (2 : Int) < (n : Int) := by omega
              have hi3 : (3 : Int) < (n : Int) := by omega
              have hi4 : (4 : Int) < (n : Int) := by omega
              have g1 := HAT.out 1
              have g2 := HAT.out 2
              have g3 := HAT.out 3
              have g4 := HAT.out 4
              obtain ⟨B1, hB1⟩ : ∃ f, Ck17.at_ bs 1 = f := ⟨_, rfl⟩
              obtain ⟨B2, hB2⟩ : ∃ f, Ck17.at_ bs 2 = f := ⟨_, rfl⟩
              obtain ⟨B3, hB3⟩ : ∃ f, Ck17.at_ bs 3 = f := ⟨_, rfl⟩
              obtain ⟨B4, hB4⟩ : ∃ f, Ck17.at_ bs 4 = f := ⟨_, rfl⟩
              have HA : Hid (Ck17.getA bs = (if (propsB (Ck17.at_ bs 5 : Int)).2 ≠ 0 then (Ck17.zeroC, 0, 2) else (⟨((3 + f / 32 - 4 : Nat) : Int), ((256 * B1 + B2 + 1 + 65536 * (f % 32) : Nat) : Int), ((256 * B3 + B4 + 1 : Nat) : Int), (propsB (Ck17.at_ bs 5 : Int)).1.lc, (propsB (Ck17.at_ bs 5 : Int)).1.lp, (propsB (Ck17.at_ bs 5 : Int)).1.pb⟩, 6, 0))) := by show _ = _; unfold Ck17.getA; rw [if_neg (by rw [HBL.out]; exact h0), HF.out, if_neg h1, if_neg h2, hw, if_neg (by rw [HBL.out]; exact h6), if_neg h3, if_neg h4, hB1, hB2, hB3, hB4]
              rw [hB1] at hc1 g1
              rw [hB2] at hc2 g2
              rw [hB3] at hc3 g3
              rw [hB4] at hc4 g4
              have g1i : (B1 : Int) ≤ 255 := by omega
              have g2i : (B2 : Int) ≤ 255 := by omega
              have g3i : (B3 : Int) ≤ 255 := by omega
              have g4i : (B4 : Int) ≤ 255 := by omega
              obtain ⟨FD, hFD⟩ : ∃ z : Nat, f / 32 = z := ⟨_, rfl⟩
              obtain ⟨FM, hFM⟩ : ∃ z : Nat, f % 32 = z := ⟨_, rfl⟩
              have t1 : (f : Int).tdiv 32 = (FD : Int) := by rw [← hFD]; rfl
              have t2 : (f : Int).tmod 32 = (FM : Int) := by rw [← hFM]; rfl
              have hFDi : (FD : Int) ≤ 7 := by omega
              have hFD4 : 4 ≤ (FD : Int) := by omega
              have hFMi : (FM : Int) ≤ 31 := by omega
              rw [hFD, hFM] at HA
              have HSI : Hid (((256 * B1 + B2 + 1 + 65536 * FM : Nat) : Int) = 256 * (B1 : Int) + (B2 : Int) + 1 + 65536 * (FM : Int) ∧ ((256 * B3 + B4 + 1 : Nat) : Int) = 256 * (B3 : Int) + (B4 : Int) + 1 ∧ ((3 + FD - 4 : Nat) : Int) = 3 + (FD : Int) - 4) := ⟨by omega, by omega, by omega⟩
              have h6c : Hid (¬ n < 6) := h6
              clear h0 h1 h2 h3 hw h6 hB1 hB2 hB3 hB4 g1 g2 g3 g4 hFD hFM h4
              go_enter Tryd.func21, Tryd.ntmps21
              go_upto_region 15 with fail
              generalize hW : w.alloc (.cells #[.int .i64 0, .int .i64 0, .int .i64 0, .int .i64 0, .int .i64 0, .int .i64 0] 25) = W0 at *
              go_quiet (fail)
              have e3 := cell_chg hc3 (chg_drewN W0 nq)
              have e4 := cell_chg hc4 (chg_drewN W0 nq)
              have HB1 : Hid ((W0.drewN nq).heap[w.heap.size]? = some (.cells #[.int .i64 0, .int .i64 0, .int .i64 0, .int .i64 0, .int .i64 0, .int .i64 0] 25 (0, 0))) := blk_keep HB0.out (chg_drewN W0 nq) (fun f => f)
              have HC1 : Hid (Chg (fun _ => False) w (W0.drewN nq)) := chg_then HC0.out (chg_drewN W0 nq)
              have hc5 := cell_chg (cell_chg (HCE2.out 5 (by have := h6c.out; omega)) HC0.out) (chg_drewN W0 nq)
              have g5 := HAT.out 5
              obtain ⟨B5, hB5⟩ : ∃ f, Ck17.at_ bs 5 = f := ⟨_, rfl⟩
              rw [hB5] at hc5 g5 HA
              have hi5 : (5 : Int) < (n : Int) := by have := h6c.out; omega
              have g5i : (B5 : Int) ≤ 255 := by omega
              have HBP : Hid (∀ ww, Calls Tryd.prog 32 #[.int .i64 (B5 : Int)] ww fun e w' => e = .returned (.tuple #[prv (propsB (B5 : Int)).1, .int .i64 (propsB (B5 : Int)).2]) ∧ Chg (fun _ => False) ww w') := rbp_any (B5 : Int) ⟨by omega, by omega⟩
              obtain ⟨⟨plc, plp, ppb⟩, pe, hpp⟩ : ∃ a b, propsB (B5 : Int) = (a, b) := ⟨_, _, rfl⟩
              rw [hpp] at HBP HA
              unfold prv at HBP
              simp only at HBP HA
              clear g5 hB5 hpp HCE2
              go_upto_region 18 with fail
              generalize W0.drewN nq = W1 at *
              have e3' := cell_chg e3 (chg_one W1 (.cells #[.int .i64 0, .int .i64 0, .int .i64 0, .int .i64 0, .int .i64 0, .int .i64 0] 25))
              have e4' := cell_chg e4 (chg_one W1 (.cells #[.int .i64 0, .int .i64 0, .int .i64 0, .int .i64 0, .int .i64 0, .int .i64 0] 25))
              clear hc0 hc1 hc2 hc3 hc4 z0 z1 z2 z3 z4 z5 HB0 HC0
              go_region
              have cV : Chg (fun _ => False) W1 ((W1.alloc (.cells #[.int .i64 (3 + (FD : Int) - 4), .int .i64 (256 * (B1 : Int) + (B2 : Int) + 1 + 65536 * (FM : Int)), .int .i64 (256 * (B3 : Int) + (B4 : Int) + 1), .int .i64 0, .int .i64 0, .int .i64 0] 25)).drew) := (chg_one W1 (.cells #[.int .i64 (3 + (FD : Int) - 4), .int .i64 (256 * (B1 : Int) + (B2 : Int) + 1 + 65536 * (FM : Int)), .int .i64 (256 * (B3 : Int) + (B4 : Int) + 1), .int .i64 0, .int .i64 0, .int .i64 0] 25)).drew
              have HV2 : Hid (((W1.alloc (.cells #[.int .i64 (3 + (FD : Int) - 4), .int .i64 (256 * (B1 : Int) + (B2 : Int) + 1 + 65536 * (FM : Int)), .int .i64 (256 * (B3 : Int) + (B4 : Int) + 1), .int .i64 0, .int .i64 0, .int .i64 0] 25)).drew).heap[W1.heap.size]? = some (.cells #[.int .i64 (3 + (FD : Int) - 4), .int .i64 (256 * (B1 : Int) + (B2 : Int) + 1 + 65536 * (FM : Int)), .int .i64 (256 * (B3 : Int) + (B4 : Int) + 1), .int .i64 0, .int .i64 0, .int .i64 0] 25 (0, 0))) := heap_alloc_last W1 _
              have HB2 : Hid (((W1.alloc (.cells #[.int .i64 (3 + (FD : Int) - 4), .int .i64 (256 * (B1 : Int) + (B2 : Int) + 1 + 65536 * (FM : Int)), .int .i64 (256 * (B3 : Int) + (B4 : Int) + 1), .int .i64 0, .int .i64 0, .int .i64 0] 25)).drew).heap[w.heap.size]? = some (.cells #[.int .i64 0, .int .i64 0, .int .i64 0, .int .i64 0, .int .i64 0, .int .i64 0] 25 (0, 0))) := blk_keep (S := fun _ => False) HB1.out cV (fun f => f)
              have HC2 : Hid (Chg (fun _ => False) w ((W1.alloc (.cells #[.int .i64 (3 + (FD : Int) - 4), .int .i64 (256 * (B1 : Int) + (B2 : Int) + 1 + 65536 * (FM : Int)), .int .i64 (256 * (B3 : Int) + (B4 : Int) + 1), .int .i64 0, .int .i64 0, .int .i64 0] 25)).drew)) := chg_then HC1.out cV
              have HNE : Hid (w.heap.size ≠ W1.heap.size) := by have := lt_of_blk HB1.out; show _ ≠ _; omega
              have x5c := cell_chg hc5 cV
              have HVB : Hid (w.heap.size ≤ W1.heap.size) := HC1.out.size
              clear cV e3 e4 e3' e4' HB1 HC1
              generalize hWv : (W1.alloc (.cells #[.int .i64 (3 + (FD : Int) - 4), .int .i64 (256 * (B1 : Int) + (B2 : Int) + 1 + 65536 * (FM : Int)), .int .i64 (256 * (B3 : Int) + (B4 : Int) + 1), .int .i64 0, .int .i64 0, .int .i64 0] 25)).drew = W2 at *
              clear hWv
              generalize W1.heap.size = vb at *
              go_wp2_with fail
              refine Calls.mono (HBP.out _) ?_
              rintro z w3 ⟨rfl, c3⟩
              have c4 := chg_one w3 (.cells #[.int .i64 plc, .int .i64 plp, .int .i64 ppb] 23)
              have b4 := heap_alloc_last w3 (.cells #[.int .i64 plc, .int .i64 plp, .int .i64 ppb] 23)
              have HC4 : Hid (Chg (fun _ => False) w (w3.alloc (.cells #[.int .i64 plc, .int .i64 plp, .int .i64 ppb] 23))) := chg_then (chg_then HC2.out c3) c4
              have HB4 : Hid ((w3.alloc (.cells #[.int .i64 plc, .int .i64 plp, .int .i64 ppb] 23)).heap[w.heap.size]? = some (.cells #[.int .i64 0, .int .i64 0, .int .i64 0, .int .i64 0, .int .i64 0, .int .i64 0] 25 (0, 0))) := blk_keep HB2.out (chg_then c3 c4) (fun f => f)
              have HV4 : Hid ((w3.alloc (.cells #[.int .i64 plc, .int .i64 plp, .int .i64 ppb] 23)).heap[vb]? = some (.cells #[.int .i64 (3 + (FD : Int) - 4), .int .i64 (256 * (B1 : Int) + (B2 : Int) + 1 + 65536 * (FM : Int)), .int .i64 (256 * (B3 : Int) + (B4 : Int) + 1), .int .i64 0, .int .i64 0, .int .i64 0] 25 (0, 0))) := blk_keep HV2.out (chg_then c3 c4) (fun f => f)
              have HP4 : Hid ((w3.alloc (.cells #[.int .i64 plc, .int .i64 plp, .int .i64 ppb] 23)).heap[w3.heap.size]? = some (.cells #[.int .i64 plc, .int .i64 plp, .int .i64 ppb] 23 (0, 0))) := b4
              clear c3 c4 b4 HBP HC2 HB2 HV2 x5c
              go_upto_region 21 with fail
              generalize w3.alloc (.cells #[.int .i64 plc, .int .i64 plp, .int .i64 ppb] 23) = W4 at *
              generalize w3.heap.size = pbk at *
              by_cases hpe : pe = 0
              rotate_left
              · have e9 : (pe != 0) = true := by simp [hpe]
                have e9' : (pe == 0) = false := by simp [hpe]
                rw [if_pos hpe] at HA
                obtain ⟨⟨k0, f0⟩, ⟨k1, f1⟩, ⟨k2, f2⟩, ⟨k3, f3⟩, ⟨k4, f4⟩, ⟨k5, f5⟩, hend, cS⟩ := store6 HB4.out (.int .i64 0) (.int .i64 0) (.int .i64 0) (.int .i64 0) (.int .i64 0) (.int .i64 0)
                have HE : Hid _ := cells6 hend
                have HCS : Hid (Chg (fun _ => False) w _) := HC4.out.trans cS (fun z e => .inr (by omega))
                clear hend cS hpe
                go_wp2
                obtain ⟨q0, q1, q2, q3, q4, q5⟩ := HE.out
                refine bodyPost_ret (v := .tuple #[.agg #[.int .i64 0, .int .i64 0, .int .i64 0, .int .i64 0, .int .i64 0, .int .i64 0], .int .i64 0, .int .i64 2]) (by simp [results, Tryd.results21, go_sem, q0, q1, q2, q3, q4, q5]) rfl ?_
                exact ⟨by rw [HA.out]; rfl, HCS.out⟩
              · subst hpe
                rw [if_neg (by simp)] at HA
                obtain ⟨p0, p1, p2, _⟩ := cells3s HP4.out
                obtain ⟨⟨k3, f3⟩, ⟨k4, f4⟩, ⟨k5, f5⟩, hend3, cS3⟩ := storeP HV4.out (.int .i64 plc) (.int .i64 plp) (.int .i64 ppb)
                have HC5 : Hid (Chg (fun _ => False) w (((W4.setCell ⟨vb, 3, none⟩ (.int .i64 plc)).setCell ⟨vb, 4, none⟩ (.int .i64 plp)).setCell ⟨vb, 5, none⟩ (.int .i64 ppb))) := HC4.out.trans cS3 (fun z e => .inr (by rw [e]; exact HVB.out))
                have HB5 : Hid ((((W4.setCell ⟨vb, 3, none⟩ (.int .i64 plc)).setCell ⟨vb, 4, none⟩ (.int .i64 plp)).setCell ⟨vb, 5, none⟩ (.int .i64 ppb)).heap[w.heap.size]? = some (.cells #[.int .i64 0, .int .i64 0, .int .i64 0, .int .i64 0, .int .i64 0, .int .i64 0] 25 (0, 0))) := blk_keep HB4.out cS3 (fun f => HNE.out f)
                have HV5 : Hid _ := hend3
                clear hend3 cS3
                go_upto_region 24 with fail
                generalize ((W4.setCell ⟨vb, 3, none⟩ (.int .i64 plc)).setCell ⟨vb, 4, none⟩ (.int .i64 plp)).setCell ⟨vb, 5, none⟩ (.int .i64 ppb) = W5 at *
                clear k3 f3 k4 f4 k5 f5 p0 p1 p2
                have HBZ : Hid _ := HB5.out
                have HVZ : Hid _ := HV5.out
                have HCZ : Hid _ := HC5.out
                obtain ⟨⟨k0, f0⟩, ⟨k1, f1⟩, ⟨k2, f2⟩, ⟨k3, f3⟩, ⟨k4, f4⟩, ⟨k5, f5⟩, hend, cS⟩ := store6 HBZ.out (.int .i64 (3 + (FD : Int) - 4)) (.int .i64 (256 * (B1 : Int) + (B2 : Int) + 1 + 65536 * (FM : Int))) (.int .i64 (256 * (B3 : Int) + (B4 : Int) + 1)) (.int .i64 plc) (.int .i64 plp) (.int .i64 ppb)
                obtain ⟨r0, r1, r2, r3, r4, r5⟩ := cells6 HVZ.out
                have HE : Hid _ := cells6 hend
                have HCS : Hid (Chg (fun _ => False) w _) := HCZ.out.trans cS (fun z e => .inr (by omega))
                clear hend cS
                go_wp2
                obtain ⟨q0, q1, q2, q3, q4, q5⟩ := HE.out
                refine bodyPost_ret (v := .tuple #[.agg #[.int .i64 (3 + (FD : Int) - 4), .int .i64 (256 * (B1 : Int) + (B2 : Int) + 1 + 65536 * (FM : Int)), .int .i64 (256 * (B3 : Int) + (B4 : Int) + 1), .int .i64 plc, .int .i64 plp, .int .i64 ppb], .int .i64 6, .int .i64 0]) (by simp [results, Tryd.results21, go_sem, q0, q1, q2, q3, q4, q5]) rfl ?_
                exact ⟨by rw [HA.out, HSI.out.1, HSI.out.2.1, HSI.out.2.2]; rfl, HCS.out⟩
end Go.Proofs.YtannepoclpmedaaDoor
