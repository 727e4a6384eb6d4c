/- VarintSole holds: for every list of bytes handed to the statement's function the call returns true and the argument reads afterwards as it did; the table of bounds is as the program's text lays it. -/
import Derived.Test.YtkjjcdkobapedaaDoorStr
import Derived.Test.YtkjjcdkobapedaaDoorCards
import Derived.Test.YtkjjcdkobapedaaDoorTie
import Derived.SevenTiedAt
namespace Go.Proofs.YtkjjcdkobapedaaDoor.varintSole
open Go.ChangeShapes Go.WideShapes Go.ChangeAt Go.RowKit
set_option linter.unusedVariables false

/-- How many bytes of 128 or more stand at the front. -/
theorem hi_ex : ∀ (xs : List Int), ∃ H : Nat, H ≤ xs.length ∧ (∀ (j : Nat) y, j < H → xs[j]? = some y → 128 ≤ y) ∧ (∀ y, xs[H]? = some y → y < 128)
  | [] => ⟨0, by simp, fun j y hj => by omega, fun y hy => by simp at hy⟩
  | x :: xs => by
    by_cases h : x < 128
    · exact ⟨0, by simp, fun j y hj => by omega, fun y hy => by simp at hy; omega⟩
    · obtain ⟨H, h1, h2, h3⟩ := hi_ex xs
      refine ⟨H + 1, by simp; omega, fun j y hj hy => ?_, fun y hy => h3 y (by simpa using hy)⟩
      rcases j with _ | j
      · simp at hy; omega
      · exact h2 j y (by omega) (by simpa using hy)

theorem at_hi {xs : List Int} {H h : Nat} {x : Int} (h2 : ∀ (j : Nat) y, j < H → xs[j]? = some y → 128 ≤ y) (h3 : ∀ y, xs[H]? = some y → y < 128) (hl : H ≤ xs.length) (hx : xs[h]? = some x) (hx1 : x < 128) (hj : ∀ (j : Nat) y, j < h → xs[j]? = some y → 128 ≤ y) : h = H := by
  have e1 : ¬ h < H := fun hlt => by have := h2 h x hlt hx; omega
  have e2 : ¬ H < h := fun hlt => by
    have hh : h < xs.length := by
      by_cases e : h < xs.length
      · exact e
      · rw [List.getElem?_eq_none (by omega)] at hx; cases hx
    have e3 : xs[H]? = some (xs[H]'(by omega)) := List.getElem?_eq_getElem _
    have := hj H _ hlt e3
    have := h3 _ e3
    omega
  omega

theorem cases4 {xs : List Int} (h8 : Bytes8 xs) {v n e : Int} (G : GetIs xs v n e) {H : Nat} (hl : H ≤ xs.length) (h2 : ∀ (j : Nat) y, j < H → xs[j]? = some y → 128 ≤ y) (h3 : ∀ y, xs[H]? = some y → y < 128) :
    (e = 1 ∧ v = 0 ∧ n = 0 ∧ H = xs.length ∧ H ≤ 8) ∨ (e = 2 ∧ v = 0 ∧ n = 0 ∧ 9 ≤ H) ∨ (e = 2 ∧ v = 0 ∧ n = 0 ∧ 0 < H ∧ H ≤ 8 ∧ H < xs.length ∧ xs[H]? = some 0) ∨
    (e = 0 ∧ n = (H : Int) + 1 ∧ H ≤ 8 ∧ H < xs.length ∧ 0 ≤ v ∧ v ≤ 9223372036854775807 ∧ vb v = xs.take (H + 1)) := by
  obtain ⟨HL, g1, g2⟩ := G
  rcases HL with ⟨e1, n0, hl8, k⟩ | ⟨e2, n0, hl9, k⟩ | ⟨h, x, hh, hx, hx1, hj, r⟩
  · refine .inl ⟨e1, g2 (by omega), n0, ?_, ?_⟩
    · by_cases e : H = xs.length
      · exact e
      · have e3 : xs[H]? = some (xs[H]'(by omega)) := List.getElem?_eq_getElem _
        have := k H _ e3
        have := h3 _ e3
        omega
    · omega
  · refine .inr (.inl ⟨e2, g2 (by omega), n0, ?_⟩)
    by_cases e : 9 ≤ H
    · exact e
    · have e3 : xs[H]? = some (xs[H]'(by omega)) := List.getElem?_eq_getElem _
      have := k H _ (by omega) e3
      have := h3 _ e3
      omega
  · obtain rfl := at_hi h2 h3 hl hx hx1 hj
    have hlt : h < xs.length := by
      by_cases e : h < xs.length
      · exact e
      · rw [List.getElem?_eq_none (by omega)] at hx; cases hx
    rcases r with ⟨r1, rfl, r2, r3⟩ | ⟨r1, r2, r3⟩
    · exact .inr (.inr (.inl ⟨r2, g2 (by omega), r3, r1, hh, hlt, hx⟩))
    · have hv := g1 r2
      rw [r3, show ((h : Int) + 1).toNat = h + 1 by omega] at hv
      obtain ⟨q1, q2⟩ := vb_of_len h8 hh hx hx1 hj r1
      subst hv
      exact .inr (.inr (.inr ⟨r2, r3, hh, hlt, (wt_bd _).1, q2, q1⟩))

set_option maxHeartbeats 1000000 in
theorem sole_cut (x : Addr) (len cap H : Nat) (xs : List Int) (v n e0 : Int) (w : World) (hT : Tab w) (HX : Hid (∀ j u, (xs.map (Value.int .u8))[j]? = some u → w.cell? (x.add j) = some u)) (HM : Hid (xs.length = len)) (hcap : cap ≤ 140737488351232) (hlc : len ≤ cap)
    (hH : H ≤ len) (H2 : Hid (∀ (j : Nat) y, j < H → xs[j]? = some y → 128 ≤ y)) (H3 : Hid (∀ y, xs[H]? = some y → y < 128)) (h8 : Hid (Bytes8 xs))
    (G : Calls Tryd.prog 12 #[.slice (some x) len cap] w fun e w' => e = .returned (.tuple #[.int .u64 v, .int .i64 n, .int .i64 e0]) ∧ w = w')
    (e1 : e0 = 1) (ev : v = 0) (en : n = 0) (hl : H = len) (h9 : H ≤ 8) :
    Calls Tryd.prog 5 #[.slice (some x) len cap] w fun e w' => e = .returned (.bool true) ∧ Below w.heap.size w w' := by
  subst e1 ev en hl
  go_enter Tryd.func5, Tryd.ntmps5
  go_wp2_with fail
  refine G.mono ?_
  rintro e w1 ⟨rfl, rfl⟩
  clear G
  go_wp2_with fail
  go_loop [6] (fun i => ∃ k : Nat, k ≤ H ∧ i = .int .i64 k) (fun i => H - (intOf i).toNat)
  case atStart => exact ⟨0, Nat.zero_le _, rfl⟩
  case round =>
    obtain ⟨k, hk, rfl⟩ := hrel
    by_cases hlt : k < H
    · have hkl : k < xs.length := by have := HM.out; omega
      have hc := cell_at HX.out k hkl
      have hy := H2.out k xs[k] hlt (List.getElem?_eq_getElem _)
      have hyd : decide (128 ≤ xs[k]) = true := by simpa using hy
      go_wp2
      go_round
      case rel => exact ⟨k + 1, by omega, by go_num⟩
      case measure => simp [intOf]; omega
    · obtain rfl : k = H := by omega
      have hd8 : decide ((k : Int) ≤ 8) = true := by simp; omega
      go_wp2_with fail
      refine (num_any _ _).mono ?_
      rintro e w1 ⟨rfl, rfl⟩
      go_wp2
      go_ret
      exact ⟨rfl, Below.refl _ _⟩

set_option maxHeartbeats 1000000 in
theorem sole_nine (x : Addr) (len cap H : Nat) (xs : List Int) (v n e0 : Int) (w : World) (hT : Tab w) (HX : Hid (∀ j u, (xs.map (Value.int .u8))[j]? = some u → w.cell? (x.add j) = some u)) (HM : Hid (xs.length = len)) (hcap : cap ≤ 140737488351232) (hlc : len ≤ cap)
    (hH : H ≤ len) (H2 : Hid (∀ (j : Nat) y, j < H → xs[j]? = some y → 128 ≤ y)) (H3 : Hid (∀ y, xs[H]? = some y → y < 128)) (h8 : Hid (Bytes8 xs))
    (G : Calls Tryd.prog 12 #[.slice (some x) len cap] w fun e w' => e = .returned (.tuple #[.int .u64 v, .int .i64 n, .int .i64 e0]) ∧ w = w')
    (e1 : e0 = 2) (ev : v = 0) (en : n = 0) (h9 : 9 ≤ H) (hl : H = len) :
    Calls Tryd.prog 5 #[.slice (some x) len cap] w fun e w' => e = .returned (.bool true) ∧ Below w.heap.size w w' := by
  subst e1 ev en hl
  go_enter Tryd.func5, Tryd.ntmps5
  go_wp2_with fail
  refine G.mono ?_
  rintro e w1 ⟨rfl, rfl⟩
  clear G
  go_wp2_with fail
  go_loop [6] (fun i => ∃ k : Nat, k ≤ H ∧ i = .int .i64 k) (fun i => H - (intOf i).toNat)
  case atStart => exact ⟨0, Nat.zero_le _, rfl⟩
  case round =>
    obtain ⟨k, hk, rfl⟩ := hrel
    by_cases hlt : k < H
    · have hkl : k < xs.length := by have := HM.out; omega
      have hc := cell_at HX.out k hkl
      have hy := H2.out k xs[k] hlt (List.getElem?_eq_getElem _)
      have hyd : decide (128 ≤ xs[k]) = true := by simpa using hy
      go_wp2
      go_round
      case rel => exact ⟨k + 1, by omega, by go_num⟩
      case measure => simp [intOf]; omega
    · obtain rfl : k = H := by omega
      go_wp2_with fail
      refine (num_any _ _).mono ?_
      rintro e w1 ⟨rfl, rfl⟩
      go_wp2
      go_ret
      exact ⟨rfl, Below.refl _ _⟩

set_option maxHeartbeats 1000000 in
theorem sole_nine2 (x : Addr) (len cap H : Nat) (xs : List Int) (v n e0 : Int) (w : World) (hT : Tab w) (HX : Hid (∀ j u, (xs.map (Value.int .u8))[j]? = some u → w.cell? (x.add j) = some u)) (HM : Hid (xs.length = len)) (hcap : cap ≤ 140737488351232) (hlc : len ≤ cap)
    (hH : H ≤ len) (H2 : Hid (∀ (j : Nat) y, j < H → xs[j]? = some y → 128 ≤ y)) (H3 : Hid (∀ y, xs[H]? = some y → y < 128)) (h8 : Hid (Bytes8 xs))
    (G : Calls Tryd.prog 12 #[.slice (some x) len cap] w fun e w' => e = .returned (.tuple #[.int .u64 v, .int .i64 n, .int .i64 e0]) ∧ w = w')
    (e1 : e0 = 2) (ev : v = 0) (en : n = 0) (h9 : 9 ≤ H) (hl : H < len) :
    Calls Tryd.prog 5 #[.slice (some x) len cap] w fun e w' => e = .returned (.bool true) ∧ Below w.heap.size w w' := by
  subst e1 ev en
  go_enter Tryd.func5, Tryd.ntmps5
  go_wp2_with fail
  refine G.mono ?_
  rintro e w1 ⟨rfl, rfl⟩
  clear G
  go_wp2_with fail
  go_loop [6] (fun i => ∃ k : Nat, k ≤ H ∧ i = .int .i64 k) (fun i => H - (intOf i).toNat)
  case atStart => exact ⟨0, Nat.zero_le _, rfl⟩
  case round =>
    obtain ⟨k, hk, rfl⟩ := hrel
    by_cases hlt : k < H
    · have hkl : k < xs.length := by have := HM.out; omega
      have hc := cell_at HX.out k hkl
      have hy := H2.out k xs[k] hlt (List.getElem?_eq_getElem _)
      have hyd : decide (128 ≤ xs[k]) = true := by simpa using hy
      go_wp2
      go_round
      case rel => exact ⟨k + 1, by omega, by go_num⟩
      case measure => simp [intOf]; omega
    · obtain rfl : k = H := by omega
      have hkl : k < xs.length := by have := HM.out; omega
      have hc := cell_at HX.out k hkl
      have hy := H3.out xs[k] (List.getElem?_eq_getElem _)
      have hyd : decide (128 ≤ xs[k]) = false := by simpa using hy
      go_wp2_with fail
      refine (num_any _ _).mono ?_
      rintro e w1 ⟨rfl, rfl⟩
      go_wp2
      go_ret
      exact ⟨rfl, Below.refl _ _⟩

set_option maxHeartbeats 1000000 in
theorem sole_zero (x : Addr) (len cap H : Nat) (xs : List Int) (v n e0 : Int) (w : World) (hT : Tab w) (HX : Hid (∀ j u, (xs.map (Value.int .u8))[j]? = some u → w.cell? (x.add j) = some u)) (HM : Hid (xs.length = len)) (hcap : cap ≤ 140737488351232) (hlc : len ≤ cap)
    (hH : H ≤ len) (H2 : Hid (∀ (j : Nat) y, j < H → xs[j]? = some y → 128 ≤ y)) (H3 : Hid (∀ y, xs[H]? = some y → y < 128)) (h8 : Hid (Bytes8 xs))
    (G : Calls Tryd.prog 12 #[.slice (some x) len cap] w fun e w' => e = .returned (.tuple #[.int .u64 v, .int .i64 n, .int .i64 e0]) ∧ w = w')
    (e1 : e0 = 2) (ev : v = 0) (en : n = 0) (h9 : 0 < H) (h99 : H ≤ 8) (hl : H < len) (hz : Hid (xs[H]? = some 0)) :
    Calls Tryd.prog 5 #[.slice (some x) len cap] w fun e w' => e = .returned (.bool true) ∧ Below w.heap.size w w' := by
  subst e1 ev en
  go_enter Tryd.func5, Tryd.ntmps5
  go_wp2_with fail
  refine G.mono ?_
  rintro e w1 ⟨rfl, rfl⟩
  clear G
  go_wp2_with fail
  go_loop [6] (fun i => ∃ k : Nat, k ≤ H ∧ i = .int .i64 k) (fun i => H - (intOf i).toNat)
  case atStart => exact ⟨0, Nat.zero_le _, rfl⟩
  case round =>
    obtain ⟨k, hk, rfl⟩ := hrel
    by_cases hlt : k < H
    · have hkl : k < xs.length := by have := HM.out; omega
      have hc := cell_at HX.out k hkl
      have hy := H2.out k xs[k] hlt (List.getElem?_eq_getElem _)
      have hyd : decide (128 ≤ xs[k]) = true := by simpa using hy
      go_wp2
      go_round
      case rel => exact ⟨k + 1, by omega, by go_num⟩
      case measure => simp [intOf]; omega
    · obtain rfl : k = H := by omega
      have hkl : k < xs.length := by have := HM.out; omega
      have hc := cell_at HX.out k hkl
      have hz0 : xs[k] = 0 := by have := hz.out; rw [List.getElem?_eq_getElem hkl] at this; simpa using this
      rw [hz0] at hc
      clear hz0
      go_wp2_with fail
      refine (num_any _ _).mono ?_
      rintro e w1 ⟨rfl, rfl⟩
      go_wp2
      go_ret
      exact ⟨rfl, Below.refl _ _⟩

set_option maxHeartbeats 1000000 in
theorem sole_yes (x : Addr) (len cap H : Nat) (xs : List Int) (v n e0 : Int) (w : World) (hT : Tab w) (HX : Hid (∀ j u, (xs.map (Value.int .u8))[j]? = some u → w.cell? (x.add j) = some u)) (HM : Hid (xs.length = len)) (hcap : cap ≤ 140737488351232) (hlc : len ≤ cap)
    (hH : H ≤ len) (H2 : Hid (∀ (j : Nat) y, j < H → xs[j]? = some y → 128 ≤ y)) (H3 : Hid (∀ y, xs[H]? = some y → y < 128)) (h8 : Hid (Bytes8 xs))
    (G : Calls Tryd.prog 12 #[.slice (some x) len cap] w fun e w' => e = .returned (.tuple #[.int .u64 v, .int .i64 n, .int .i64 e0]) ∧ w = w')
    (e1 : e0 = 0) (en : n = (H : Int) + 1) (h9 : H ≤ 8) (hl : H < len) (v0 : 0 ≤ v) (v1 : v ≤ 9223372036854775807) (hv : Hid (vb v = xs.take (H + 1))) :
    Calls Tryd.prog 5 #[.slice (some x) len cap] w fun e w' => e = .returned (.bool true) ∧ Below w.heap.size w w' := by
  subst e1 en
  go_enter Tryd.func5, Tryd.ntmps5
  go_wp2_with fail
  refine G.mono ?_
  rintro e w1 ⟨rfl, rfl⟩
  clear G
  go_wp2_with fail
  go_loop [6] (fun i => ∃ k : Nat, k ≤ H ∧ i = .int .i64 k) (fun i => H - (intOf i).toNat)
  case atStart => exact ⟨0, Nat.zero_le _, rfl⟩
  case round =>
    obtain ⟨k, hk, rfl⟩ := hrel
    by_cases hlt : k < H
    · have hkl : k < xs.length := by have := HM.out; omega
      have hc := cell_at HX.out k hkl
      have hy := H2.out k xs[k] hlt (List.getElem?_eq_getElem _)
      have hyd : decide (128 ≤ xs[k]) = true := by simpa using hy
      go_wp2
      go_round
      case rel => exact ⟨k + 1, by omega, by go_num⟩
      case measure => simp [intOf]; omega
    · obtain rfl : k = H := by omega
      have hkl : k < xs.length := by have := HM.out; omega
      have hc := cell_at HX.out k hkl
      have hy := H3.out xs[k] (List.getElem?_eq_getElem _)
      have hyd : decide (128 ≤ xs[k]) = false := by simpa using hy
      go_wp2_with fail
      refine (num_any _ _).mono ?_
      rintro e w1 ⟨rfl, rfl⟩
      go_wp2_with fail
      refine (put_any _ _ hT v0 v1).mono ?_
      rintro e w1 ⟨rfl, hb1, hc1⟩
      have hs : sz v = k + 1 := by have := vb_length v; rw [hv.out, List.length_take] at this; omega
      rw [hs]
      rw [hv.out] at hb1
      have hl1 : (xs.take (k + 1)).length = k + 1 := by rw [List.length_take]; have := HM.out; omega
      have hr1 := row8_blk hb1 (k + 1) hl1 (k + 1)
      have hrx : Row8 w1 (some x) (k + 1) cap (xs.take (k + 1)) := row8_take (row8_chg (show Row8 w (some x) len cap xs from ⟨HM.out, .inr ⟨x, rfl, HX.out⟩⟩) hc1) (k + 1) (by omega)
      have hv1 := conv8 hr1
      have hv2 := conv8 hrx
      generalize strOfNums (xs.take (k + 1)) = s at *
      clear hb1 hr1 hrx hc hy hyd
      have hdl : decide ((k : Int) + 1 ≤ (len : Int)) = true := by simp; omega
      go_wp2_with fail
      go_quiet ((go_at_call 11; exact num_quiet _ _ _))
      go_wp2
      go_ret
      exact ⟨rfl, (hc1.trans (chg_drewN (S := fun _ => False) w1 _) (fun _ f => f.elim)).below (Nat.le_refl _) (fun _ f => f.elim)⟩


set_option maxHeartbeats 1000000 in
theorem walk_nil (w : World) : Calls Tryd.prog 5 #[.slice none 0 0] w fun e w' => e = .returned (.bool true) ∧ Below w.heap.size w w' := by
  have G := get_any none 0 0 [] w ⟨rfl, .inl ⟨rfl, rfl, rfl⟩⟩ Bytes8.nil (Nat.le_refl _) (by omega)
  go_enter Tryd.func5, Tryd.ntmps5
  go_wp2_with fail
  refine G.mono ?_
  rintro e w1 ⟨v, n, e0, rfl, hgi, rfl⟩
  obtain ⟨rfl, rfl, rfl⟩ : e0 = 1 ∧ v = 0 ∧ n = 0 := by
    rcases cases4 Bytes8.nil hgi (H := 0) (by simp) (fun j y hj => by omega) (fun y hy => by simp at hy) with ⟨a, b, c, _⟩ | ⟨_, _, _, d⟩ | ⟨_, _, _, d, _⟩ | ⟨_, _, _, d, _⟩
    · exact ⟨a, b, c⟩
    · omega
    · omega
    · simp at d
  clear G hgi
  go_wp2_with fail
  go_loop [6] (fun i => i = .int .i64 0) (fun _ => 0)
  case atStart => rfl
  case round =>
    obtain rfl := hrel
    go_wp2_with fail
    refine (num_any _ _).mono ?_
    rintro e w1 ⟨rfl, rfl⟩
    go_wp2
    go_ret
    exact ⟨rfl, Below.refl _ _⟩

theorem len_unique {xs : List Int} {n e n' e' : Int} (A : LenIs xs n e) (B : LenIs xs n' e') : n' = n ∧ e' = e := by
  rcases A with ⟨rfl, rfl, a, b⟩ | ⟨rfl, rfl, a, b⟩ | ⟨h, x, a, b, c, d, r⟩
  · exact (B.cut a b).symm
  · rcases B with ⟨_, _, k, _⟩ | ⟨rfl, rfl, _⟩ | ⟨h', x', a', b', c', d', r'⟩
    · omega
    · exact ⟨rfl, rfl⟩
    · have := b h' x' (by omega) b'
      omega
  · rcases r with ⟨r1, r2, rfl, rfl⟩ | ⟨r1, rfl, rfl⟩
    · rcases B with ⟨_, _, k, l⟩ | ⟨rfl, rfl, _⟩ | ⟨h', x', a', b', c', d', r'⟩
      · have := l h x b
        omega
      · exact ⟨rfl, rfl⟩
      · have e1 : ¬ h < h' := fun hl => by have := d' h x hl b; omega
        have e2 : ¬ h' < h := fun hl => by have := d h' x' hl b'; omega
        obtain rfl : h' = h := by omega
        rw [b] at b'
        simp only [Option.some.injEq] at b'
        subst b'
        rcases r' with ⟨_, _, rfl, rfl⟩ | ⟨q, _⟩
        · exact ⟨rfl, rfl⟩
        · exact (q ⟨r1, r2⟩).elim
    · exact (B.ok a b c d r1).symm

theorem get_unique {xs : List Int} {v n e v' n' e' : Int} (A : GetIs xs v n e) (B : GetIs xs v' n' e') : v' = v ∧ n' = n ∧ e' = e := by
  obtain ⟨rfl, rfl⟩ := len_unique A.1 B.1
  refine ⟨?_, rfl, rfl⟩
  by_cases h : e' = 0
  · rw [A.2.1 h, B.2.1 h]
  · rw [A.2.2 h, B.2.2 h]

theorem get_ex (xs : List Int) : ∃ v n e, GetIs xs v n e := by
  obtain ⟨H, h1, h2, h3⟩ := hi_ex xs
  by_cases h9 : 9 ≤ H
  · exact ⟨0, 0, 2, .inr (.inl ⟨rfl, rfl, by omega, fun j y hj hy => h2 j y (by omega) hy⟩), fun f => by omega, fun _ => rfl⟩
  · by_cases hl : H = xs.length
    · exact ⟨0, 0, 1, .inl ⟨rfl, rfl, by omega, fun j y hy => h2 j y (by
        by_cases e : j < xs.length
        · omega
        · rw [List.getElem?_eq_none (by omega)] at hy; cases hy) hy⟩, fun f => by omega, fun _ => rfl⟩
    · have e3 : xs[H]? = some (xs[H]'(by omega)) := List.getElem?_eq_getElem _
      by_cases hz : 0 < H ∧ (xs[H]'(by omega)) = 0
      · exact ⟨0, 0, 2, .inr (.inr ⟨H, _, by omega, e3, h3 _ e3, h2, .inl ⟨hz.1, hz.2, rfl, rfl⟩⟩), fun f => by omega, fun _ => rfl⟩
      · exact ⟨wt (xs.take (H + 1)), (H : Int) + 1, 0, .inr (.inr ⟨H, _, by omega, e3, h3 _ e3, h2, .inr ⟨hz, rfl, rfl⟩⟩), fun _ => by congr 2, fun f => (f rfl).elim⟩

theorem get_at {x : Addr} {len cap : Nat} {xs : List Int} {w : World} (h : Row8 w (some x) len cap xs) (h8 : Bytes8 xs) (hmc : len ≤ cap) (hl : len ≤ 140737488355328) :
    ∃ v n e', (Calls Tryd.prog 12 #[.slice (some x) len cap] w fun e w' => e = .returned (.tuple #[.int .u64 v, .int .i64 n, .int .i64 e']) ∧ w = w') ∧ GetIs xs v n e' := by
  obtain ⟨v, n, e', A⟩ := get_ex xs
  refine ⟨v, n, e', (get_any _ _ _ _ _ h h8 hmc hl).mono ?_, A⟩
  rintro e w' ⟨v1, n1, e1, rfl, B, rfl⟩
  obtain ⟨rfl, rfl, rfl⟩ := get_unique A B
  exact ⟨rfl, rfl⟩

theorem walk (a : Option Addr) (len cap : Nat) (xs : List Int) (w : World) (hT : Tab w) (hx : Row8 w a len cap xs) (hx8 : Bytes8 xs) (hl : len ≤ cap) (hcap : cap ≤ 140737488351232) :
    Calls Tryd.prog 5 #[.slice a len cap] w fun e w' => e = .returned (.bool true) ∧ Below w.heap.size w w' := by
  rcases id hx.2 with ⟨rfl, rfl, rfl⟩ | ⟨x, rfl, HX⟩
  · exact walk_nil w
  · obtain ⟨v, n, e0, G, GI⟩ := get_at hx hx8 hl (by omega)
    obtain ⟨H, h1, h2, h3⟩ := hi_ex xs
    have hm := hx.1
    rcases cases4 hx8 GI h1 h2 h3 with ⟨a1, a2, a3, a4, a5⟩ | ⟨a1, a2, a3, a4⟩ | ⟨a1, a2, a3, a4, a5, a6, a7⟩ | ⟨a1, a2, a3, a4, a5, a6, a7⟩
    · exact sole_cut x len cap H xs v n e0 w hT HX hm hcap hl (by omega) h2 h3 hx8 G a1 a2 a3 (by omega) a5
    · by_cases e : H = len
      · exact sole_nine x len cap H xs v n e0 w hT HX hm hcap hl (by omega) h2 h3 hx8 G a1 a2 a3 a4 e
      · exact sole_nine2 x len cap H xs v n e0 w hT HX hm hcap hl (by omega) h2 h3 hx8 G a1 a2 a3 a4 (by omega)
    · exact sole_zero x len cap H xs v n e0 w hT HX hm hcap hl (by omega) h2 h3 hx8 G a1 a2 a3 a4 a5 (by omega) a7
    · exact sole_yes x len cap H xs v n e0 w hT HX hm hcap hl (by omega) h2 h3 hx8 G a1 a2 a3 (by omega) a5 a6 a7

set_option maxRecDepth 100000 in
theorem lifted (os : Os) (started : os.Started) (H : Type) (enc : TypeId × Value → H) :
    ReturnsInHanded {} Tryd.checked os 5 .any (fun w args => (Rows.varintSoleSpec.pre enc Tryd.prog Tryd.f5 [] false w args ∧ laidMetH Tryd.prog [("pith/varint.bounds", Rows.laid_pith_varint_bounds)] w) ∧ sizedMet enc Tryd.prog Tryd.f5 (OpenSpec.ofChange Rows.varintSoleSpec) false w args)
      (Rows.varintSoleSpec.post enc Tryd.prog Tryd.f5 false true false false) := by
  refine returnsInHanded_of_change_and (C := Tryd.checked) (X := fun w _ => laidMetH Tryd.prog [("pith/varint.bounds", Rows.laid_pith_varint_bounds)] w) (fun _ _ _ hh h => h.of_heap hh) own started (by kernel_rfl) Tryd.func5
    (ChangeSpec.witness_shaped (enc := enc) (C := Tryd.checked) (os := os) (X := fun w _ => laidMetH Tryd.prog [("pith/varint.bounds", Rows.laid_pith_varint_bounds)] w) false (World.doorLaid Tryd.prog 400 os) #[.slice none 0 0] 8 rfl (World.shaped_of_RefB (by kernel_rfl) (by kernel_rfl)) (by kernel_rfl) (by kernel_rfl) (by kernel_rfl) (door_met os _)) ?_
  intro W base args ds gs before hval0 hW _ hsz0 hL _
  have hsz : (DataW.weightsEach Tryd.prog (Tryd.f5.params.toList ++ Rows.varintSoleSpec.plain.varTypes Tryd.prog) (ds ++ gs)).all (· ≤ reachBytes) = true := hsz0
  clear hsz0
  have hT := tab_of_laid hL
  have hval : ∀ (j : Nat) t v, Tryd.f5.params[j]? = some t → args[j]? = some v → Value.okWide Tryd.prog W .any base t v := hval0
  have hW' := hW
  obtain ⟨p, q, hA0, hV, rfl, hfz, hnd⟩ := hW
  have hA : DataW.TrodAll enc Tryd.prog W 0 (fun _ => true) true Tryd.f5.params.toList args.toList ds p := hA0
  rw [Tryd.params5] at hA hval hsz
  obtain ⟨v0, vs0, d0, ds0, p0, q0, hargs, rfl, rfl, h0, r0⟩ := trodAll_cons hA
  obtain ⟨rfl, rfl, rfl⟩ := trodAll_nil r0
  obtain rfl : args = #[v0] := by cases args; simp_all
  obtain ⟨rfl, rfl⟩ := trodVars_none hV
  obtain ⟨a0, len0, cap0, rfl⟩ := okWide_slice Tryd.underlying24 (hval 0 24 v0 rfl rfl)
  have k0 := h0
  have lt0 : ∀ x ∈ p0, x.block < W.heap.size := by obtain ⟨m, hm⟩ := k0; exact DataW.trod_lt m _ _ _ hm
  obtain ⟨xs0, hx0, hy0, hl0, hcap0⟩ := open8 h0 (fun elems spare e => by subst e; exact sized_slice hsz (j := 0) (t := 24) (e := 5) rfl rfl Tryd.underlying24)
  clear hA0 hval0
  refine (walk a0 len0 cap0 xs0 W hT hx0 hy0 hl0 hcap0).mono fun e W' ⟨he, bel⟩ => ?_
  subst he
  exact ⟨_, rfl, _, _, _, [], _, [], hW', trodAll_mk1 (shut_bool Tryd.underlying4 _), (trodAll_cons_mk (Below.trod laidOut (by kernel_rfl) (of_decide_eq_true (by kernel_rfl)) k0 bel lt0) trodAll_mk0), rfl, bel.frame _, fun h => by cases h⟩

theorem over : Rows.VarintSoleSaid :=
  OpenClaim.holds_of_wide 5 Tryd.f5 rfl rfl rfl rfl rfl rfl rfl ⟨rfl, rfl, rfl, rfl, rfl⟩ rfl rfl rfl rfl rfl (by kernel_rfl) Tryd.func5 (by kernel_rfl)
    (of_decide_eq_true (by kernel_rfl)) (by unfold Func.isWrapper; first | (rw [if_pos (by decide +kernel)]; kernel_rfl) | (rw [if_neg (by decide +kernel)]; exact ⟨rfl, rfl⟩))
    (fun os started H enc _ => lifted os started H enc)

theorem card : Rows.VarintSoleCardSaid :=
  Claim7.holds_tied_plain_at .later [] [.data] true (true, "9eaca55c46c199496ff09bc0497ecf8d869f991bd74fb21b856a185c3ef4797a") false
    over (fun _ h => by cases h) (by kernel_rfl) (fun _ h => by cases h) varintSole_row_tie rfl ⟨rfl, rfl⟩ (by kernel_rfl) rfl
    (fun f fn hf hfn => by
      obtain rfl : f = 5 := Option.some.inj ((show Tryd.prog.funcNamed "pith/pithlaw02.VarintSole" = some 5 by kernel_rfl).symm.trans hf) |>.symm
      obtain rfl : fn = Tryd.f5 := (Option.some.inj (Tryd.func5.symm.trans hfn)).symm
      exact ⟨by kernel_rfl, fun j t ht => by
        rw [Tryd.params5] at ht
        have hm : t ∈ [24] := by simpa using Array.mem_of_getElem? ht
        have hall : ([24].all fun u => !Tryd.prog.wantsStandIn u) = true := by kernel_rfl
        exact (show Tryd.prog.wantsStandIn t = false by simpa using List.all_eq_true.1 hall t hm)⟩)
    (by kernel_rfl)
end Go.Proofs.YtkjjcdkobapedaaDoor.varintSole
namespace Go.Proofs.YtkjjcdkobapedaaDoor
theorem varintSole_holds : Rows.VarintSoleCardSaid := varintSole.card
#print axioms varintSole_holds
end Go.Proofs.YtkjjcdkobapedaaDoor
