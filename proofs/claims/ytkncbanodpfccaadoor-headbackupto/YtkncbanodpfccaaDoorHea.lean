/- Numbers and filters read byte by byte, as plain mathematics; of no statement by themselves. -/
import Derived.Test.YtkncbanodpfccaaDoorBoundC
namespace Go.Proofs.YtkncbanodpfccaaDoor
open Go.RowKit
set_option linter.unusedVariables false
set_option linter.unusedSimpArgs false
theorem getN_nil : (getN []).2.2 = 1 := by
  have h := getN_pos []
  have e := getN_cut (v := 0) (by omega) (c := 0) (by have := vbn_le 0; omega)
  rw [List.take_zero] at e
  rw [e]
/-- What more bytes behind don't turn. -/
theorem getN_more {a : List Nat} (hd : Rc.Dig a) (h : (getN a).2.2 ≠ 1) (t : List Nat) : getN (a ++ t) = getN a := by
  have hp := getN_pos a
  by_cases h0 : (getN a).2.2 = 0
  · obtain ⟨b1, b2⟩ := getN_back hd h0
    have e1 : a = vbn (getN a).1 ++ a.drop (getN a).2.1 := by rw [b1, List.take_append_drop]
    have g1 := getN_vbn b2 (a.drop (getN a).2.1)
    have g2 := getN_vbn b2 (a.drop (getN a).2.1 ++ t)
    rw [← e1] at g1
    rw [← List.append_assoc, ← e1] at g2
    rw [g2]
    exact g1.symm
  · have hi := getN_is a
    have e2 : (getN a).2.2 = 2 := by omega
    have en : (getN a).2.1 = 0 := by omega
    have ev : (getN a).1 = 0 := by omega
    rw [e2, en, ev] at hi
    have key : Vint.GetIs (nums (a ++ t)) ((0 : Nat) : Int) ((0 : Nat) : Int) 2 := by
      refine ⟨?_, fun f => by omega, fun _ => rfl⟩
      rw [nums_app]
      obtain ⟨L, -, -⟩ := hi
      have hg : ∀ {j : Nat}, j < (nums a).length → (nums a ++ nums t)[j]? = (nums a)[j]? := fun hj => List.getElem?_append_left hj
      rcases L with ⟨f, _⟩ | ⟨_, _, p, q⟩ | ⟨k, x, p, q, r, s, u⟩
      · omega
      · exact .inr (.inl ⟨rfl, rfl, by rw [List.length_append]; omega, fun j y hj hy => q j y hj (by rwa [hg (by omega)] at hy)⟩)
      · have hk := (List.getElem?_eq_some_iff.1 q).1
        exact .inr (.inr ⟨k, x, p, by rw [hg hk]; exact q, r, fun j y hj hy => s j y hj (by rwa [hg (by omega)] at hy), u⟩)
    obtain ⟨k1, k2, k3⟩ := getN_of key
    generalize getN (a ++ t) = g at *
    generalize getN a = q at *
    obtain ⟨g1, g2, g3⟩ := g
    obtain ⟨q1, q2, q3⟩ := q
    simp only at *
    rw [← k3, e2, en, ev, show g1 = 0 by omega, show g2 = 0 by omega]
theorem take_le_app (bs : List Nat) {j k : Nat} (h : j ≤ k) : ∃ t, bs.take k = bs.take j ++ t := ⟨(bs.drop j).take (k - j), by rw [← List.take_add, show j + (k - j) = k by omega]⟩
theorem take_app_all (bs : List Nat) (k : Nat) : bs = bs.take k ++ bs.drop k := (List.take_append_drop k bs).symm
/-- One byte more: a number that then ends has just these bytes. -/
theorem stepN {bs : List Nat} (hd : Rc.Dig bs) {k : Nat} (hk : k < bs.length) (h1 : (getN (bs.take k)).2.2 = 1) (h2 : (getN (bs.take (k + 1))).2.2 ≠ 1) : getN bs = getN (bs.take (k + 1)) ∧ ((getN (bs.take (k + 1))).2.2 = 0 → (getN (bs.take (k + 1))).2.1 = k + 1) := by
  have e := getN_more (dig_take hd (k + 1)) h2 (bs.drop (k + 1))
  rw [← take_app_all] at e
  refine ⟨e, fun h0 => ?_⟩
  have hp := getN_pos (bs.take (k + 1))
  rw [List.length_take] at hp
  obtain ⟨b1, b2⟩ := getN_back (dig_take hd (k + 1)) h0
  generalize hn : (getN (bs.take (k + 1))).2.1 = n at *
  by_cases hnk : n ≤ k
  · exfalso
    rw [List.take_take, Nat.min_eq_left (by omega)] at b1
    have g := getN_vbn b2 []
    rw [List.append_nil, b1] at g
    obtain ⟨t, ht⟩ := take_le_app bs hnk
    have m := getN_more (dig_take hd n) (by rw [g]; simp) t
    rw [← ht, g] at m
    rw [m] at h1
    simp at h1
  · omega
namespace Cn20
theorem getF_nil : (getF []).2.2 = 1 := by
  have := getN_nil
  unfold getF
  rw [if_pos (by omega)]
  exact this
theorem getF_more {a : List Nat} (hd : Rc.Dig a) (hl : a.length ≤ 9223372036854775807) (h : (getF a).2.2 ≠ 1) (t : List Nat) : getF (a ++ t) = getF a := by
  by_cases h0 : (getF a).2.2 = 0
  · obtain ⟨b1, b2, b3⟩ := get_back hd h0
    have hp := (get_pos a).1
    have e1 : a = (putF (getF a).1).1 ++ a.drop (getF a).2.1 := by rw [b1, List.take_append_drop]
    have g1 := get_put b2 (by omega) (a.drop (getF a).2.1)
    have g2 := get_put b2 (by omega) (a.drop (getF a).2.1 ++ t)
    rw [← e1] at g1
    rw [← List.append_assoc, ← e1] at g2
    rw [g2]
    exact g1.symm
  · have p1 := getN_pos a
    have p2 := getN_pos (a.drop (getN a).2.1)
    unfold getF at h h0 ⊢
    by_cases k1 : (getN a).2.2 ≠ 0
    · rw [if_pos k1] at h
      rw [getN_more hd h t, if_pos k1, if_pos k1]
    · rw [if_neg k1] at h h0
      have q1 : (getN a).2.2 = 0 := Decidable.not_not.1 k1
      have m1 := getN_more hd (by omega) t
      rw [m1, if_neg k1, if_neg k1]
      rw [List.drop_append_of_le_length (by omega)]
      by_cases k2 : (getN (a.drop (getN a).2.1)).2.2 ≠ 0
      · rw [if_pos k2] at h
        rw [getN_more (dig_drop hd _) h t, if_pos k2, if_pos k2]
      · rw [if_neg k2] at h h0
        exfalso
        split at h
        · exact h rfl
        · rename_i k3
          rw [if_neg k3] at h0
          exact h0 rfl
/-- One byte more: a filter that then ends has just these bytes. -/
theorem stepF {bs : List Nat} (hd : Rc.Dig bs) (hl : bs.length ≤ 140737488355328) {k : Nat} (hk : k < bs.length) (h1 : (getF (bs.take k)).2.2 = 1) (h2 : (getF (bs.take (k + 1))).2.2 ≠ 1) : getF bs = getF (bs.take (k + 1)) ∧ ((getF (bs.take (k + 1))).2.2 = 0 → (getF (bs.take (k + 1))).2.1 = k + 1) := by
  have e := getF_more (dig_take hd (k + 1)) (by rw [List.length_take]; omega) h2 (bs.drop (k + 1))
  rw [← take_app_all] at e
  refine ⟨e, fun h0 => ?_⟩
  have hp := (get_pos (bs.take (k + 1))).1
  rw [List.length_take] at hp
  obtain ⟨b1, b2, b3⟩ := get_back (dig_take hd (k + 1)) h0
  generalize hn : (getF (bs.take (k + 1))).2.1 = n at *
  by_cases hnk : n ≤ k
  · exfalso
    rw [List.take_take, Nat.min_eq_left (by omega)] at b1
    have g := get_put b2 (by omega) []
    rw [List.append_nil, b1] at g
    obtain ⟨t, ht⟩ := take_le_app bs hnk
    have m := getF_more (dig_take hd n) (by rw [List.length_take]; omega) (by rw [g]; simp) t
    rw [← ht, g] at m
    rw [m] at h1
    simp at h1
  · omega
end Cn20
end Go.Proofs.YtkncbanodpfccaaDoor
