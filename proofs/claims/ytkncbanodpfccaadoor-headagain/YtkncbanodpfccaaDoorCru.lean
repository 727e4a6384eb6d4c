/- The document's own Read of filters; of no statement by itself. -/
import Derived.Test.YtkncbanodpfccaaDoorCrt
namespace Go.Proofs.YtkncbanodpfccaaDoor
open Go.RowKit
open St12
set_option linter.unusedVariables false
set_option linter.unusedSimpArgs false
/-- A filter with one byte, or not. -/
theorem one_cases {w : World} {id : Nat} {a : Option Addr} {n c : Nat} {bs : List Nat} (h : (⟨id, a, n, c, bs⟩ : FlV).ok w) (m : Nat) : (id ≠ m ∧ Cn20.one ⟨id, bs⟩ m = none) ∨ (id = m ∧ n ≠ 1 ∧ Cn20.one ⟨id, bs⟩ m = none) ∨ (id = m ∧ n = 1 ∧ ∃ x b off, bs = [x] ∧ x < 256 ∧ a = some ⟨b, off, none⟩ ∧ w.cell? ⟨b, off, none⟩ = some (.int .u8 (x : Int)) ∧ Cn20.one ⟨id, bs⟩ m = some x) := by
  have hl := h.len
  simp only at hl
  by_cases h1 : id = m
  · by_cases h2 : n = 1
    · rw [h2] at hl
      match bs, hl with
      | [x], _ =>
        obtain ⟨b, off, ha, hx⟩ := row8_at h.row (by simp only; omega)
        have h0 := hx 0 (by simp only; omega)
        refine .inr (.inr ⟨h1, h2, x, b, off, rfl, h.dig x (by simp), ha, by simpa using h0, ?_⟩)
        unfold Cn20.one
        rw [if_pos h1]
    · refine .inr (.inl ⟨h1, h2, ?_⟩)
      unfold Cn20.one
      rw [if_pos h1]
      match bs, hl with
      | [], _ => rfl
      | [x], hl => simp at hl; omega
      | x :: y :: r, _ => rfl
  · refine .inl ⟨h1, ?_⟩
    unfold Cn20.one
    rw [if_neg h1]
set_option maxHeartbeats 8000000 in
set_option maxRecDepth 100000 in
theorem rread20_any (ad : Option Addr) (n c : Nat) (l : List FlV) (w : World) (h : FlL w ad l) (hl : l.length = n) (hn : n ≤ 4398046511104) : Calls Tryd.prog 36 #[.slice ad n c] w fun e w' => e = .returned (.tuple #[.int .i64 (Cn20.readF (l.map FlV.f)).1, .int .i64 (Cn20.readF (l.map FlV.f)).2.1, .int .i64 (Cn20.readF (l.map FlV.f)).2.2]) ∧ Chg (fun _ => False) w w' := by
  have hBD : Hid (∀ (b : Int) (w : World), I64 b → Calls Tryd.prog 59 #[.int .i64 b] w fun e w' => e = .returned (.tuple #[.int .i64 (Ck17.byteD b).1, .int .i64 (Ck17.byteD b).2]) ∧ w = w') := fun b w hb => rbd17_any b hb w
  match l, hl with
  | [], hl =>
    obtain rfl : n = 0 := by simpa using hl.symm
    go_enter Tryd.func36, Tryd.ntmps36
    go_wp2
    go_ret3
    exact ⟨rfl, Chg.refl _ _⟩
  | p :: q :: r :: t, hl =>
    have hn3 : 3 ≤ n := by rw [← hl]; simp
    have d1 : decide ((n : Int) < 1) = false := decide_eq_false (by omega)
    have d1' : decide (n < 1) = false := decide_eq_false (by omega)
    have d2 : decide (2 < (n : Int)) = true := decide_eq_true (by omega)
    have d2' : decide (2 < n) = true := decide_eq_true (by omega)
    have hni : (n : Int) ≤ 4398046511104 := by omega
    clear hl
    go_enter Tryd.func36, Tryd.ntmps36
    go_wp2
    go_ret3
    exact ⟨rfl, Chg.refl _ _⟩
  | [q], hl =>
    obtain rfl : n = 1 := by simpa using hl.symm
    obtain ⟨hok, b, off, rfl, x0, x1⟩ := h 0 _ rfl
    obtain ⟨qi, qa, qn, qc, qb⟩ := q
    simp only [Nat.zero_mul, Nat.one_mul, Nat.add_zero] at x0 x1
    obtain ⟨y, hy⟩ : ∃ y : Int, (qi : Int) = y := ⟨_, rfl⟩
    rw [hy] at x0
    have hlim : (qn : Int) ≤ 140737488351232 := by have := hok.lim; simp only at this; omega
    have cA := chg_one w (.cells #[.int .u64 y, .slice qa qn qc] 54)
    have bA := heap_alloc_last w (.cells #[.int .u64 y, .slice qa qn qc] 54)
    have m0 : (w.alloc (.cells #[.int .u64 y, .slice qa qn qc] 54)).cell? ⟨w.heap.size, 0, none⟩ = some (.int .u64 y) := cell0 bA
    have m1 : (w.alloc (.cells #[.int .u64 y, .slice qa qn qc] 54)).cell? ⟨w.heap.size, 1, none⟩ = some (.slice qa qn qc) := cell1 bA
    have HCA : Hid (Chg (fun _ => False) w (w.alloc (.cells #[.int .u64 y, .slice qa qn qc] 54))) := cA
    have hcs := one_cases hok 33
    rcases hcs with ⟨hne, hone⟩ | ⟨he, hne, hone⟩ | ⟨he, hq1, x, b2, off2, hqb, hx, ha, hcx, hone⟩
    · have x9 : (y != 33) = true := by simp; omega
      have HE : Hid (Cn20.readF (List.map FlV.f [(⟨qi, qa, qn, qc, qb⟩ : FlV)]) = (0, 0, 4)) := by show _ = _; simp only [Cn20.readF, FlV.f, List.map_cons, List.map_nil, hone]
      clear hok hne hone hy cA bA
      go_enter Tryd.func36, Tryd.ntmps36
      go_wp2
      go_ret3
      exact ⟨by rw [HE.out]; rfl, HCA.out⟩
    · obtain rfl : y = 33 := by omega
      have x9 : ((qn : Int) != 1) = true := by simp; omega
      have HE : Hid (Cn20.readF (List.map FlV.f [(⟨qi, qa, qn, qc, qb⟩ : FlV)]) = (0, 0, 4)) := by show _ = _; simp only [Cn20.readF, FlV.f, List.map_cons, List.map_nil, hone]
      clear hok hne hone hy he cA bA
      go_enter Tryd.func36, Tryd.ntmps36
      go_wp2
      go_ret3
      exact ⟨by rw [HE.out]; rfl, HCA.out⟩
    · obtain rfl : y = 33 := by omega
      subst hq1 hqb ha
      replace hcx := cell_chg hcx HCA.out
      have hxi : (x : Int) < 256 := by omega
      by_cases hx40 : 40 < x
      · have x9 : decide (40 < (x : Int)) = true := decide_eq_true (by omega)
        have x8 : decide (40 < x) = true := decide_eq_true hx40
        have HE : Hid (Cn20.readF (List.map FlV.f [(⟨qi, some ⟨b2, off2, none⟩, 1, qc, [x]⟩ : FlV)]) = (0, 0, 4)) := by show _ = _; simp only [Cn20.readF, FlV.f, List.map_cons, List.map_nil, hone]; exact if_neg (by omega)
        clear hok hone hy he cA bA hx hx40
        go_enter Tryd.func36, Tryd.ntmps36
        go_wp2
        go_ret3
        exact ⟨by rw [HE.out]; rfl, HCA.out⟩
      · have x9 : decide (40 < (x : Int)) = false := decide_eq_false (by omega)
        have x8 : decide (40 < x) = false := decide_eq_false hx40
        have hbd : Ck17.byteD (x : Int) = (((Ck17.dic x : Nat) : Int), 0) := Ck17.byteD_in (by omega)
        have HB : Hid _ := hBD.out (x : Int) (w.alloc (.cells #[.int .u64 33, .slice (some ⟨b2, off2, none⟩) 1 qc] 54)) (by unfold I64; omega)
        rw [hbd] at HB
        simp only at HB
        have HE : Hid (Cn20.readF [(⟨qi, [x]⟩ : Flt)] = (0, ((Ck17.dic x : Nat) : Int), 0)) := by show _ = _; simp only [Cn20.readF, hone]; exact if_pos (by omega)
        clear hok hone hy he cA bA hx hx40 hbd
        go_enter Tryd.func36, Tryd.ntmps36
        go_wp2_with fail
        refine Calls.mono HB.out ?_
        rintro z w2 ⟨rfl, rfl⟩
        go_wp2
        go_ret3
        exact ⟨by show _ = _; rw [show List.map FlV.f [(⟨qi, some ⟨b2, off2, none⟩, 1, qc, [x]⟩ : FlV)] = [(⟨qi, [x]⟩ : Flt)] from rfl, HE.out]; rfl, HCA.out⟩
  | [p, q], hl =>
    obtain rfl : n = 2 := by simpa using hl.symm
    obtain ⟨hok, b, off, rfl, x0, x1⟩ := h 1 _ rfl
    obtain ⟨qi, qa, qn, qc, qb⟩ := q
    simp only [Nat.zero_mul, Nat.one_mul, Nat.add_zero] at x0 x1
    obtain ⟨y, hy⟩ : ∃ y : Int, (qi : Int) = y := ⟨_, rfl⟩
    rw [hy] at x0
    have hlim : (qn : Int) ≤ 140737488351232 := by have := hok.lim; simp only at this; omega
    have cA := chg_one w (.cells #[.int .u64 y, .slice qa qn qc] 54)
    have bA := heap_alloc_last w (.cells #[.int .u64 y, .slice qa qn qc] 54)
    have m0 : (w.alloc (.cells #[.int .u64 y, .slice qa qn qc] 54)).cell? ⟨w.heap.size, 0, none⟩ = some (.int .u64 y) := cell0 bA
    have m1 : (w.alloc (.cells #[.int .u64 y, .slice qa qn qc] 54)).cell? ⟨w.heap.size, 1, none⟩ = some (.slice qa qn qc) := cell1 bA
    have HCA : Hid (Chg (fun _ => False) w (w.alloc (.cells #[.int .u64 y, .slice qa qn qc] 54))) := cA
    have hcs := one_cases hok 33
    rcases hcs with ⟨hne, hone⟩ | ⟨he, hne, hone⟩ | ⟨he, hq1, x, b2, off2, hqb, hx, ha, hcx, hone⟩
    · have x9 : (y != 33) = true := by simp; omega
      have HE : Hid (Cn20.readF (List.map FlV.f [p, (⟨qi, qa, qn, qc, qb⟩ : FlV)]) = (0, 0, 4)) := by show _ = _; simp only [Cn20.readF, FlV.f, List.map_cons, List.map_nil, hone]; try (split <;> simp_all)
      clear hok hne hone hy cA bA
      go_enter Tryd.func36, Tryd.ntmps36
      go_wp2
      go_ret3
      exact ⟨by rw [HE.out]; rfl, HCA.out⟩
    · obtain rfl : y = 33 := by omega
      have x9 : ((qn : Int) != 1) = true := by simp; omega
      have HE : Hid (Cn20.readF (List.map FlV.f [p, (⟨qi, qa, qn, qc, qb⟩ : FlV)]) = (0, 0, 4)) := by show _ = _; simp only [Cn20.readF, FlV.f, List.map_cons, List.map_nil, hone]; try (split <;> simp_all)
      clear hok hne hone hy he cA bA
      go_enter Tryd.func36, Tryd.ntmps36
      go_wp2
      go_ret3
      exact ⟨by rw [HE.out]; rfl, HCA.out⟩
    · obtain rfl : y = 33 := by omega
      subst hq1 hqb ha
      replace hcx := cell_chg hcx HCA.out
      have hxi : (x : Int) < 256 := by omega
      by_cases hx40 : 40 < x
      · have x9 : decide (40 < (x : Int)) = true := decide_eq_true (by omega)
        have x8 : decide (40 < x) = true := decide_eq_true hx40
        have HE : Hid (Cn20.readF (List.map FlV.f [p, (⟨qi, some ⟨b2, off2, none⟩, 1, qc, [x]⟩ : FlV)]) = (0, 0, 4)) := by show _ = _; simp only [Cn20.readF, FlV.f, List.map_cons, List.map_nil, hone]; split <;> simp_all <;> omega
        clear hok hone hy he cA bA hx hx40
        go_enter Tryd.func36, Tryd.ntmps36
        go_wp2
        go_ret3
        exact ⟨by rw [HE.out]; rfl, HCA.out⟩
      · have x9 : decide (40 < (x : Int)) = false := decide_eq_false (by omega)
        have x8 : decide (40 < x) = false := decide_eq_false hx40
        have hbd : Ck17.byteD (x : Int) = (((Ck17.dic x : Nat) : Int), 0) := Ck17.byteD_in (by omega)
        have HB : Hid _ := hBD.out (x : Int) (w.alloc (.cells #[.int .u64 33, .slice (some ⟨b2, off2, none⟩) 1 qc] 54)) (by unfold I64; omega)
        rw [hbd] at HB
        simp only at HB
        obtain ⟨hok2, b', off', hh, w0, w1⟩ := h 0 _ rfl
        simp only [Option.some.injEq, Addr.mk.injEq, and_true] at hh
        obtain ⟨rfl, rfl⟩ := hh
        obtain ⟨pi, pa, pn, pc, pb⟩ := p
        simp only [Nat.zero_mul, Nat.add_zero] at w0 w1
        obtain ⟨v, hv⟩ : ∃ v : Int, (pi : Int) = v := ⟨_, rfl⟩
        rw [hv] at w0
        replace w0 := cell_chg w0 HCA.out
        replace w1 := cell_chg w1 HCA.out
        have hlim2 : (pn : Int) ≤ 140737488351232 := by have := hok2.lim; simp only at this; omega
        have hcs2 := one_cases hok2 3
        have hone33 := hone
        rcases hcs2 with ⟨hne, hone2⟩ | ⟨he2, hne, hone2⟩ | ⟨he2, hp1, z, b3, off3, hpb, hz, ha3, hcz, hone2⟩
        · have x7 : (v != 3) = true := by simp; omega
          have HE : Hid (Cn20.readF [(⟨pi, pb⟩ : Flt), ⟨qi, [x]⟩] = (0, 0, 4)) := by show _ = _; simp only [Cn20.readF, hone2]
          clear hok hok2 hone hone2 hone33 hy hv he hne cA bA hx hx40 hbd
          go_enter Tryd.func36, Tryd.ntmps36
          go_wp2_with fail
          refine Calls.mono HB.out ?_
          rintro z w2 ⟨rfl, rfl⟩
          go_wp2
          go_ret3
          exact ⟨by show _ = _; rw [show List.map FlV.f [(⟨pi, pa, pn, pc, pb⟩ : FlV), ⟨qi, some ⟨b2, off2, none⟩, 1, qc, [x]⟩] = [(⟨pi, pb⟩ : Flt), ⟨qi, [x]⟩] from rfl, HE.out]; rfl, HCA.out⟩
        · obtain rfl : v = 3 := by omega
          have x7 : ((pn : Int) != 1) = true := by simp; omega
          have HE : Hid (Cn20.readF [(⟨pi, pb⟩ : Flt), ⟨qi, [x]⟩] = (0, 0, 4)) := by show _ = _; simp only [Cn20.readF, hone2]
          clear hok hok2 hone hone2 hone33 hy hv he he2 hne cA bA hx hx40 hbd
          go_enter Tryd.func36, Tryd.ntmps36
          go_wp2_with fail
          refine Calls.mono HB.out ?_
          rintro z w2 ⟨rfl, rfl⟩
          go_wp2
          go_ret3
          exact ⟨by show _ = _; rw [show List.map FlV.f [(⟨pi, pa, pn, pc, pb⟩ : FlV), ⟨qi, some ⟨b2, off2, none⟩, 1, qc, [x]⟩] = [(⟨pi, pb⟩ : Flt), ⟨qi, [x]⟩] from rfl, HE.out]; rfl, HCA.out⟩
        · obtain rfl : v = 3 := by omega
          subst hp1 hpb ha3
          replace hcz := cell_chg hcz HCA.out
          have hzi : (z : Int) < 256 := by omega
          have HE : Hid (Cn20.readF [(⟨pi, [z]⟩ : Flt), ⟨qi, [x]⟩] = ((z : Int) + 1, ((Ck17.dic x : Nat) : Int), 0)) := by show _ = _; simp only [Cn20.readF, hone2, hone33]; exact if_pos (by omega)
          clear hok hok2 hone hone2 hone33 hy hv he he2 cA bA hx hz hx40 hbd
          go_enter Tryd.func36, Tryd.ntmps36
          go_wp2_with fail
          refine Calls.mono HB.out ?_
          rintro z2 w2 ⟨rfl, rfl⟩
          go_wp2
          go_ret3
          exact ⟨by show _ = _; rw [show List.map FlV.f [(⟨pi, some ⟨b3, off3, none⟩, 1, pc, [z]⟩ : FlV), ⟨qi, some ⟨b2, off2, none⟩, 1, qc, [x]⟩] = [(⟨pi, [z]⟩ : Flt), ⟨qi, [x]⟩] from rfl, HE.out]; rfl, HCA.out⟩
end Go.Proofs.YtkncbanodpfccaaDoor
