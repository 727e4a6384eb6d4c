/- The document's told sizes, both; of no statement by themselves. -/
import Derived.Test.YtkncbanodpfccaaDoorHdk
namespace Go.Proofs.YtkncbanodpfccaaDoor
open Go.RowKit
open St12
set_option linter.unusedVariables false
set_option linter.unusedSimpArgs false
noncomputable def st1 (fl : Nat) (R : List Nat) : Int × List Nat × Int := Hd21.getSz (fl / 64 % 2 = 1) R
noncomputable def st2 (fl : Nat) (R : List Nat) : Int × List Nat × Int := Hd21.getSz (fl / 128 = 1) (st1 fl R).2.1
noncomputable def stE (fl : Nat) (R : List Nat) : Int := if (st1 fl R).2.2 ≠ 0 ∨ (st1 fl R).1 = 0 then 2 else if (st2 fl R).2.2 ≠ 0 then 2 else 0
theorem st_no (R : List Nat) : Hd21.getSz false R = (-1, R, 0) := rfl
theorem blk_setkH {w : World} {a : Nat} {l : List Value} {t : TypeId} (h : w.heap[a]? = some (.cells l.toArray t (0, 0))) (k : Nat) (u : Value) : (w.setCell ⟨a, k, none⟩ u).heap[a]? = some (.cells (l.set k u).toArray t (0, 0)) := Vint.blk_setk h k u
theorem free4 {w : World} {a : Nat} {x0 x1 x2 x3 : Value} {t : TypeId} (h : w.heap[a]? = some (.cells #[x0, x1, x2, x3] t (0, 0))) (k : Nat) : w.frozen? ⟨a, k, none⟩ = false := by
  simp [World.frozen?, h]
theorem set4_0 {w : World} {a : Nat} {x0 x1 x2 x3 u : Value} {t : TypeId} (h : w.heap[a]? = some (.cells #[x0, x1, x2, x3] t (0, 0))) : (w.setCell ⟨a, 0, none⟩ u).heap[a]? = some (.cells #[u, x1, x2, x3] t (0, 0)) := by
  have := blk_setkH (l := [x0, x1, x2, x3]) h 0 u
  exact this
theorem set4_1 {w : World} {a : Nat} {x0 x1 x2 x3 u : Value} {t : TypeId} (h : w.heap[a]? = some (.cells #[x0, x1, x2, x3] t (0, 0))) : (w.setCell ⟨a, 1, none⟩ u).heap[a]? = some (.cells #[x0, u, x2, x3] t (0, 0)) := by
  have := blk_setkH (l := [x0, x1, x2, x3]) h 1 u
  exact this
theorem set4_2 {w : World} {a : Nat} {x0 x1 x2 x3 u : Value} {t : TypeId} (h : w.heap[a]? = some (.cells #[x0, x1, x2, x3] t (0, 0))) : (w.setCell ⟨a, 2, none⟩ u).heap[a]? = some (.cells #[x0, x1, u, x3] t (0, 0)) := by
  have := blk_setkH (l := [x0, x1, x2, x3]) h 2 u
  exact this
theorem row8_keepH {w w' : World} {B n c : Nat} {ad : Option Addr} {xs : List Int} (h : Row8 w ad n c xs) (hc : Chg (fun g => g = B) w w') (hS : ∀ y : Addr, 0 < n → ad = some y → y.block ≠ B) : Row8 w' ad n c xs := by
  refine ⟨h.1, ?_⟩
  rcases h.2 with e | ⟨x, rfl, hx⟩
  · exact .inl e
  · refine .inr ⟨x, rfl, fun j u hu => ?_⟩
    have h0 := hx j u hu
    have hlt := World.block_lt_of_cell? w _ h0
    have hj := (List.getElem?_eq_some_iff.1 hu).1
    rw [List.length_map, h.1] at hj
    have hb : (x.add j).block = x.block := by unfold Addr.add; split <;> rfl
    rw [World.cell?_of_block (w := w) (hc.block _ hlt (fun e => hS x (by omega) rfl (by rw [← hb]; exact e)))]
    exact h0
set_option maxHeartbeats 8000000 in
set_option maxRecDepth 100000 in
theorem rsizes_any (ra : Option Addr) (rn rc : Nat) (R : List Nat) (fl : Nat) (hf : fl ≤ 255) (Hb : Nat) (p0 s0 : Int) (fv : Value) (by_ : Int) (w : World) (h : Row8 w ra rn rc (nums R)) (hd : Rc.Dig R) (hc : rn ≤ rc) (hn : rn ≤ 140737488355328) (hb : w.heap[Hb]? = some (.cells #[.int .i64 p0, .int .i64 s0, fv, .int .i64 by_] 24 (0, 0))) (hne : ∀ y : Addr, 0 < rn → ra = some y → y.block ≠ Hb) :
    Calls Tryd.prog 34 #[.slice ra rn rc, .int .u8 (fl : Int), .pointer (some ⟨Hb, 0, none⟩)] w fun e w' => ∃ (k : Nat) (p1 s1 : Int), e = .returned (.tuple #[.int .i64 (k : Int), .int .i64 (stE fl R)]) ∧ k ≤ rn ∧ (stE fl R = 0 → R.drop k = (st2 fl R).2.1 ∧ p1 = (st1 fl R).1 ∧ s1 = (st2 fl R).1) ∧ w'.heap[Hb]? = some (.cells #[.int .i64 p1, .int .i64 s1, fv, .int .i64 by_] 24 (0, 0)) ∧ Chg (fun g => g = Hb) w w' := by
  have HRL : Hid (R.length = rn) := by have h9 := h.1; rw [nums_len] at h9; exact h9
  have HZ : Hid (∀ (k : Nat) (ww : World), Chg (fun g => g = Hb) w ww → k ≤ rn → Calls Tryd.prog 57 #[.slice ra rn rc, .int .i64 (k : Int)] ww fun e w' => e = .returned (.tuple #[.int .i64 (szA R k).1, .int .i64 ((szA R k).2.1 : Int), .int .i64 (szA R k).2.2]) ∧ w' = ww) := fun k ww hcw hk => rsize_any ra rn rc R k ww (row8_keepH h hcw hne) hd hc hn hk
  have HB0 : Hid (w.heap[Hb]? = some (.cells #[.int .i64 p0, .int .i64 s0, fv, .int .i64 by_] 24 (0, 0))) := hb
  have f0 := free4 hb 0
  have f1 := free4 hb 1
  obtain ⟨q0, q1, q2, q3⟩ := cells4h hb
  have hB1 := set4_0 (u := .int .i64 (-1)) hb
  have hB2 := set4_1 (u := .int .i64 (-1)) hB1
  obtain ⟨r0, r1, r2, r3⟩ := cells4h hB1
  have g1 := free4 hB1 1
  have hC2 : Chg (fun g => g = Hb) w ((w.setCell ⟨Hb, 0, none⟩ (.int .i64 (-1))).setCell ⟨Hb, 1, none⟩ (.int .i64 (-1))) := (Chg.setCell (S := fun g => g = Hb) (Chg.refl _ w) (p := ⟨Hb, 0, none⟩) (.inl rfl) _).setCell (p := ⟨Hb, 1, none⟩) (.inl rfl) _
  have HB2 : Hid _ := hB2
  have HC2 : Hid _ := hC2
  obtain ⟨a1, ha1⟩ : ∃ a, fl / 64 = a := ⟨_, rfl⟩
  obtain ⟨a2, ha2⟩ : ∃ a, a1 % 2 = a := ⟨_, rfl⟩
  obtain ⟨a3, ha3⟩ : ∃ a, fl / 128 = a := ⟨_, rfl⟩
  have j1 : (fl : Int).tdiv 64 = (a1 : Int) := by rw [Int.tdiv_eq_ediv_of_nonneg (by omega)]; omega
  have j1' : (fl : Int) / 64 = (a1 : Int) := by omega
  have j2 : (a1 : Int).tmod 2 = (a2 : Int) := by rw [Int.tmod_eq_emod_of_nonneg (by omega)]; omega
  have j2' : (a1 : Int) % 2 = (a2 : Int) := by omega
  have j3 : (fl : Int).tdiv 128 = (a3 : Int) := by rw [Int.tdiv_eq_ediv_of_nonneg (by omega)]; omega
  have j3' : (fl : Int) / 128 = (a3 : Int) := by omega
  have ja1 : (a1 : Int) ≤ 3 := by omega
  have ja2 : (a2 : Int) ≤ 1 := by omega
  have ja3 : (a3 : Int) ≤ 1 := by omega
  have HA1 : Hid (fl / 64 % 2 = a2 ∧ fl / 128 = a3) := ⟨by rw [ha1]; exact ha2, ha3⟩
  have hni : (rn : Int) ≤ 140737488355328 := by omega
  have hfi : (fl : Int) ≤ 255 := by omega
  clear h hd hc hne hb hB1 hB2 hC2 ha1 ha2 ha3
  go_enter Tryd.func34, Tryd.ntmps34
  go_upto_region 5 with fail
  generalize (w.setCell ⟨Hb, 0, none⟩ (.int .i64 (-1))).setCell ⟨Hb, 1, none⟩ (.int .i64 (-1)) = W2 at *
  clear f0 f1 q0 q1 q2 q3 r0 r1 r2 r3 g1
  by_cases k1 : a2 = 1
  · have y1 : ((a2 : Int) == 1) = true := by simp [k1]
    have HS1 : Hid (st1 fl R = if (szA R 0).2.2 ≠ 0 then (0, [], 2) else ((szA R 0).1, R.drop (szA R 0).2.1, 0)) := by
      show _ = _
      have h1 := (szA_is (R := R) (k := 0)).2
      rw [List.drop_zero] at h1
      rw [← h1]
      unfold st1
      rw [HA1.out.1, k1]
      rfl
    have hle := szA_le (R := R) (k := 0) (Nat.zero_le _)
    rw [HRL.out] at hle
    have HZ1 : Hid _ := HZ.out 0 W2 HC2.out (Nat.zero_le _)
    have hzz := (szA_is (R := R) (k := 0)).1
    obtain ⟨v1, k, e1, hs⟩ : ∃ a b c, szA R 0 = (a, b, c) := ⟨_, _, _, rfl⟩
    rw [hs] at HZ1 HS1 hle hzz
    simp only at HZ1 HS1 hle hzz
    have hB3 := set4_0 (u := .int .i64 v1) HB2.out
    have hC3 := HC2.out.setCell (p := ⟨Hb, 0, none⟩) (.inl rfl) (.int .i64 v1)
    have HB3 : Hid _ := hB3
    have HC3 : Hid _ := hC3
    obtain ⟨t0, _, _, _⟩ := cells4h HB2.out
    have f0 := free4 HB2.out 0
    obtain ⟨q0, q1, q2, q3⟩ := cells4h hB3
    have hki : (k : Int) ≤ 140737488355328 := by omega
    clear hs k1 hB3 hC3
    by_cases k2 : e1 = 0
    · subst k2
      have HS2 := HS1.out
      rw [if_neg (by simp)] at HS2
      by_cases k3 : v1 = 0
      · subst k3
        have HE : Hid (stE fl R = 2) := by show _ = _; unfold stE; rw [HS2, if_pos (by simp)]
        clear HS1 HS2 hzz
        go_wp2_with fail
        refine Calls.mono HZ1.out ?_
        rintro z w1 ⟨rfl, rfl⟩
        go_wp2
        go_ret2
        exact ⟨0, _, _, by rw [HE.out]; rfl, Nat.zero_le _, fun e => by rw [HE.out] at e; exact absurd e (by decide), HB3.out, HC3.out⟩
      · have y2 : (v1 == 0) = false := by simp [k3]
        have HX1 : Hid (st1 fl R = (v1, R.drop k, 0) ∧ v1 ≠ 0) := ⟨HS2, k3⟩
        clear HS1 HS2 hzz k3
        go_wp2_with fail
        refine Calls.mono HZ1.out ?_
        rintro z w1 ⟨rfl, rfl⟩
        go_upto_region 9 with fail
        clear t0 f0 q0 q1 q2 q3 y2 HZ1
        generalize w1.setCell ⟨Hb, 0, none⟩ (.int .i64 v1) = W3 at *
        by_cases k4 : a3 = 1
        · have y3 : ((a3 : Int) == 1) = true := by simp [k4]
          have HS4 : Hid (st2 fl R = if (szA R k).2.2 ≠ 0 then (0, [], 2) else ((szA R k).1, R.drop (szA R k).2.1, 0)) := by
            show _ = _
            rw [← (szA_is (R := R) (k := k)).2]
            unfold st2
            rw [HX1.out.1, HA1.out.2, k4]
            rfl
          have hle2 := szA_le (R := R) (k := k) (by rw [HRL.out]; exact hle)
          rw [HRL.out] at hle2
          have HZ2 : Hid _ := HZ.out k W3 HC3.out hle
          obtain ⟨v2, m, e2, hs2⟩ : ∃ a b c, szA R k = (a, b, c) := ⟨_, _, _, rfl⟩
          rw [hs2] at HZ2 HS4 hle2
          simp only at HZ2 HS4 hle2
          have hB5 := set4_1 (u := .int .i64 v2) HB3.out
          have HB5 : Hid _ := hB5
          have HC5 : Hid _ := HC3.out.setCell (p := ⟨Hb, 1, none⟩) (.inl rfl) (.int .i64 v2)
          obtain ⟨_, t1, _, _⟩ := cells4h HB3.out
          have f1 := free4 HB3.out 1
          clear hs2 k4 hB5
          by_cases k5 : e2 = 0
          · subst k5
            have HS5 := HS4.out
            rw [if_neg (by simp)] at HS5
            have HE : Hid (stE fl R = 0 ∧ st2 fl R = (v2, R.drop m, 0)) := ⟨by unfold stE; rw [HX1.out.1, if_neg (by simp [HX1.out.2]), HS5, if_neg (by simp)], HS5⟩
            clear HS4 HS5
            go_wp2_with fail
            refine Calls.mono HZ2.out ?_
            rintro z w5 ⟨rfl, rfl⟩
            go_wp2
            go_ret2
            exact ⟨m, v1, v2, by rw [HE.out.1]; rfl, hle2, fun _ => ⟨by rw [HE.out.2], by rw [HX1.out.1], by rw [HE.out.2]⟩, HB5.out, HC5.out⟩
          · have HE : Hid (stE fl R = 2) := by show _ = _; unfold stE; rw [HX1.out.1, if_neg (by simp [HX1.out.2]), HS4.out]; simp [k5]
            have y4 : (e2 != 0) = true := by simp [k5]
            clear HS4 k5
            go_wp2_with fail
            refine Calls.mono HZ2.out ?_
            rintro z w5 ⟨rfl, rfl⟩
            go_wp2
            go_ret2
            exact ⟨0, v1, v2, by rw [HE.out]; rfl, Nat.zero_le _, fun e => by rw [HE.out] at e; exact absurd e (by decide), HB5.out, HC5.out⟩
        · have y3 : ((a3 : Int) == 1) = false := by simp; omega
          have HX2 : Hid (st2 fl R = (-1, R.drop k, 0)) := by show _ = _; unfold st2; rw [HX1.out.1, HA1.out.2, decide_eq_false k4]; rfl
          have HE : Hid (stE fl R = 0) := by show _ = _; unfold stE; rw [HX1.out.1, if_neg (by simp [HX1.out.2]), HX2.out, if_neg (by simp)]
          clear k4
          go_wp2
          go_ret2
          exact ⟨k, v1, -1, by rw [HE.out]; rfl, hle, fun _ => ⟨by rw [HX2.out], by rw [HX1.out.1], by rw [HX2.out]⟩, HB3.out, HC3.out⟩
    · have hE : Hid (stE fl R = 2) := by show _ = _; unfold stE; rw [HS1.out]; simp [k2]
      have y2 : (e1 != 0) = true := by simp [k2]
      clear HS1 hzz k2
      go_wp2_with fail
      refine Calls.mono HZ1.out ?_
      rintro z w1 ⟨rfl, rfl⟩
      go_wp2
      go_ret2
      exact ⟨0, _, _, by rw [hE.out]; rfl, Nat.zero_le _, fun e => by rw [hE.out] at e; exact absurd e (by decide), HB3.out, HC3.out⟩
  · have y1 : ((a2 : Int) == 1) = false := by simp; omega
    have HX1 : Hid (st1 fl R = (-1, R.drop 0, 0) ∧ (-1 : Int) ≠ 0) := ⟨by unfold st1; rw [HA1.out.1, decide_eq_false k1, List.drop_zero]; rfl, by decide⟩
    have HB3 : Hid (W2.heap[Hb]? = some (.cells #[.int .i64 (-1), .int .i64 (-1), fv, .int .i64 by_] 24 (0, 0))) := HB2.out
    have HC3 : Hid (Chg (fun g => g = Hb) w W2) := HC2.out
    have hle : 0 ≤ rn := Nat.zero_le _
    have hki : ((0 : Nat) : Int) ≤ 140737488355328 := by omega
    clear k1
    go_upto_region 9 with fail
    clear HB2 HC2
    by_cases k4 : a3 = 1
    · have y3 : ((a3 : Int) == 1) = true := by simp [k4]
      have HS4 : Hid (st2 fl R = if (szA R 0).2.2 ≠ 0 then (0, [], 2) else ((szA R 0).1, R.drop (szA R 0).2.1, 0)) := by
        show _ = _
        rw [← (szA_is (R := R) (k := 0)).2]
        unfold st2
        rw [HX1.out.1, HA1.out.2, k4]
        rfl
      have hle2 := szA_le (R := R) (k := 0) (by rw [HRL.out]; exact hle)
      rw [HRL.out] at hle2
      have HZ2 : Hid _ := HZ.out 0 W2 HC3.out hle
      obtain ⟨v2, m, e2, hs2⟩ : ∃ a b c, szA R 0 = (a, b, c) := ⟨_, _, _, rfl⟩
      rw [hs2] at HZ2 HS4 hle2
      simp only at HZ2 HS4 hle2
      have hB5 := set4_1 (u := .int .i64 v2) HB3.out
      have HB5 : Hid _ := hB5
      have HC5 : Hid _ := HC3.out.setCell (p := ⟨Hb, 1, none⟩) (.inl rfl) (.int .i64 v2)
      obtain ⟨_, t1, _, _⟩ := cells4h HB3.out
      have f1 := free4 HB3.out 1
      clear hs2 k4 hB5
      by_cases k5 : e2 = 0
      · subst k5
        have HS5 := HS4.out
        rw [if_neg (by simp)] at HS5
        have HE : Hid (stE fl R = 0 ∧ st2 fl R = (v2, R.drop m, 0)) := ⟨by unfold stE; rw [HX1.out.1, if_neg (by simp [HX1.out.2]), HS5, if_neg (by simp)], HS5⟩
        clear HS4 HS5
        go_wp2_with fail
        refine Calls.mono HZ2.out ?_
        rintro z w5 ⟨rfl, rfl⟩
        go_wp2
        go_ret2
        exact ⟨m, (-1), v2, by rw [HE.out.1]; rfl, hle2, fun _ => ⟨by rw [HE.out.2], by rw [HX1.out.1], by rw [HE.out.2]⟩, HB5.out, HC5.out⟩
      · have HE : Hid (stE fl R = 2) := by show _ = _; unfold stE; rw [HX1.out.1, if_neg (by simp [HX1.out.2]), HS4.out]; simp [k5]
        have y4 : (e2 != 0) = true := by simp [k5]
        clear HS4 k5
        go_wp2_with fail
        refine Calls.mono HZ2.out ?_
        rintro z w5 ⟨rfl, rfl⟩
        go_wp2
        go_ret2
        exact ⟨0, (-1), v2, by rw [HE.out]; rfl, Nat.zero_le _, fun e => by rw [HE.out] at e; exact absurd e (by decide), HB5.out, HC5.out⟩
    · have y3 : ((a3 : Int) == 1) = false := by simp; omega
      have HX2 : Hid (st2 fl R = (-1, R.drop 0, 0)) := by show _ = _; unfold st2; rw [HX1.out.1, HA1.out.2, decide_eq_false k4]; rfl
      have HE : Hid (stE fl R = 0) := by show _ = _; unfold stE; rw [HX1.out.1, if_neg (by simp [HX1.out.2]), HX2.out, if_neg (by simp)]
      clear k4
      go_wp2
      go_ret2
      exact ⟨0, (-1), -1, by rw [HE.out]; rfl, hle, fun _ => ⟨by rw [HX2.out], by rw [HX1.out.1], by rw [HX2.out]⟩, HB3.out, HC3.out⟩
end Go.Proofs.YtkncbanodpfccaaDoor
