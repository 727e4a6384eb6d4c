/- The mathematics of a ring in which a window's bytes lie; of no statement by itself. -/
import Derived.Test.YthgibmhbgfjkcaaWm
namespace Go.Proofs.Ythgibmhbgfjkcaa
set_option linter.unusedVariables false

theorem backB_in (bs xs : List Nat) (d : Nat) (h1 : 1 ≤ d) (h2 : d ≤ xs.length) : xs[xs.length - d]? = some (backB (bs ++ xs) d) := by
  rw [← backB_at h1 (by rw [List.length_append]; omega), List.length_append, List.getElem?_append_right (by omega)]
  congr 1
  omega
theorem backB_past (bs xs : List Nat) (d : Nat) (h1 : xs.length < d) (h2 : d ≤ bs.length + xs.length) : backB (bs ++ xs) d = backB bs (d - xs.length) := by
  have e1 := backB_at (bs := bs ++ xs) (d := d) (by omega) (by rw [List.length_append]; exact h2)
  have e2 := backB_at (bs := bs) (d := d - xs.length) (by omega) (by omega)
  rw [List.length_append, List.getElem?_append_left (by omega), show bs.length + xs.length - d = bs.length - (d - xs.length) by omega, e2] at e1
  exact (Option.some.inj e1).symm
/-- The last bytes of bs in a ring that grows up to n; the next byte goes to a. -/
structure RingOk (n : Nat) (bs ring : List Nat) (a : Nat) : Prop where
  len : ring.length = fullN n bs
  le : a ≤ ring.length
  grow : ring.length < n → a = ring.length
  back : ∀ d, 1 ≤ d → d ≤ ring.length → ring[if d ≤ a then a - d else a + ring.length - d]? = some (backB bs d)
theorem RingOk.nil (n : Nat) : RingOk n [] [] 0 := ⟨by simp [fullN], Nat.le_refl _, fun _ => rfl, fun d h1 h2 => by simp at h2; omega⟩
/-- Behind the ring's end its beginning follows. -/
theorem RingOk.turn {n : Nat} {bs ring : List Nat} (h : RingOk n bs ring n) : RingOk n bs ring 0 := by
  have h1 := h.le
  have h2 := h.len
  have h3 : ring.length = n := by unfold fullN at h2; omega
  refine ⟨h2, Nat.zero_le _, fun f => by omega, fun d d1 d2 => ?_⟩
  have := h.back d d1 d2
  rw [if_pos (by omega)] at this
  rw [if_neg (by omega), show 0 + ring.length - d = n - d by omega]
  exact this
/-- A piece is laid, within the size. -/
theorem RingOk.put {n : Nat} {bs ring : List Nat} {a : Nat} (h : RingOk n bs ring a) (xs : List Nat) (hk : a + xs.length ≤ n) : RingOk n (bs ++ xs) (ring.take a ++ xs ++ ring.drop (a + xs.length)) (a + xs.length) := by
  have hle := h.le
  have hln := h.len
  have hgr := h.grow
  unfold fullN at hln
  have hta : (ring.take a).length = a := by rw [List.length_take]; omega
  have hL : (ring.take a ++ xs ++ ring.drop (a + xs.length)).length = max ring.length (a + xs.length) := by simp only [List.length_append, List.length_drop, hta]; omega
  refine ⟨?_, by rw [hL]; omega, fun f => ?_, fun d d1 d2 => ?_⟩
  · rw [hL]
    unfold fullN
    rw [List.length_append]
    by_cases c : ring.length < n
    · have := hgr c; omega
    · omega
  · rw [hL] at f ⊢
    have := hgr (by omega)
    omega
  · rw [hL] at d2 ⊢
    by_cases c : d ≤ xs.length
    · rw [if_pos (by omega), List.getElem?_append_left (by rw [List.length_append, hta]; omega), List.getElem?_append_right (by omega), hta, show a + xs.length - d - a = xs.length - d by omega]
      exact backB_in bs xs d d1 c
    · have hdl : d ≤ bs.length + xs.length := by
        by_cases c2 : ring.length < n
        · have := hgr c2; omega
        · omega
      have hdm : d - xs.length ≤ ring.length := by
        by_cases c2 : ring.length < n
        · have := hgr c2; omega
        · omega
      rw [backB_past bs xs d (by omega) hdl]
      have hb := h.back (d - xs.length) (by omega) hdm
      by_cases c3 : d ≤ a + xs.length
      · rw [if_pos (by omega)] at hb
        rw [if_pos c3, List.getElem?_append_left (by rw [List.length_append, hta]; omega), List.getElem?_append_left (by omega), List.getElem?_take, if_pos (by omega), show a + xs.length - d = a - (d - xs.length) by omega]
        exact hb
      · rw [if_neg (by omega)] at hb
        have hm : max ring.length (a + xs.length) = ring.length := by omega
        rw [if_neg c3, hm, List.getElem?_append_right (by rw [List.length_append, hta]; omega), List.length_append, hta, List.getElem?_drop, show a + xs.length + (a + xs.length + ring.length - d - (a + xs.length)) = a + ring.length - (d - xs.length) by omega]
        exact hb
/-- A piece that fills the whole ring. -/
theorem RingOk.great (n : Nat) (bs xs : List Nat) (h : n ≤ xs.length) : RingOk n (bs ++ xs) (xs.drop (xs.length - n)) n := by
  have hl : (xs.drop (xs.length - n)).length = n := by rw [List.length_drop]; omega
  refine ⟨by rw [hl]; unfold fullN; rw [List.length_append]; omega, by omega, fun f => by omega, fun d d1 d2 => ?_⟩
  rw [hl] at d2 ⊢
  rw [if_pos d2, List.getElem?_drop, show xs.length - n + (n - d) = xs.length - d by omega]
  exact backB_in bs xs d d1 (by omega)
/-- What a ring gives at a distance. -/
theorem RingOk.at {n : Nat} {bs ring : List Nat} {a : Nat} (h : RingOk n bs ring a) (d : Nat) (h1 : 1 ≤ d) (h2 : d ≤ fullN n bs) : (d ≤ a → ring[a - d]? = some (backB bs d)) ∧ (a < d → ring[a + ring.length - d]? = some (backB bs d)) := by
  have hb := h.back d h1 (by rw [h.len]; exact h2)
  exact ⟨fun c => by rwa [if_pos c] at hb, fun c => by rwa [if_neg (by omega)] at hb⟩
/-- As many bytes as came, up to the size: the place is their number over the size. -/
theorem RingOk.len_full {n : Nat} {bs ring : List Nat} {a : Nat} (h : RingOk n bs ring a) (hn : n ≤ bs.length) : ring.length = n := by have := h.len; unfold fullN at this; omega
theorem RingOk.len_all {n : Nat} {bs ring : List Nat} {a : Nat} (h : RingOk n bs ring a) (hn : bs.length < n) : ring.length = bs.length ∧ a = bs.length := by
  have h1 := h.len
  have h2 := h.grow
  unfold fullN at h1
  omega
/-- Where the whole of it lies: first what lies from a on, then what lies ahead of it. -/
theorem RingOk.take {n : Nat} {bs ring : List Nat} {a : Nat} (h : RingOk n bs ring a) (k : Nat) (hk : k ≤ a) (i : Nat) (hi : i < k) : ring[a - k + i]? = some (backB bs (k - i)) := by
  have hb := h.back (k - i) (by omega) (by have := h.le; omega)
  rw [if_pos (by omega)] at hb
  rw [show a - k + i = a - (k - i) by omega]
  exact hb
end Go.Proofs.Ythgibmhbgfjkcaa
