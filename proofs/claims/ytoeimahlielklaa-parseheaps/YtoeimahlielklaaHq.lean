/- A heap as a tree in a list: rising and sinking; of no statement by itself. -/
import Derived.Test.YtoeimahlielklaaHm
namespace Hp16
/-- The pair number k. -/
def nth (l : List Pr) (k : Nat) : Pr := l.getD k (0, 0)
theorem nth_of {l : List Pr} {k : Nat} {p : Pr} (h : l[k]? = some p) : nth l k = p := by unfold nth; rw [List.getD_eq_getElem?_getD, h]; rfl
theorem nth_at {l : List Pr} {k : Nat} (h : k < l.length) : l[k]? = some (nth l k) := by
  rw [nth_of (List.getElem?_eq_getElem h)]
  exact List.getElem?_eq_getElem h
theorem nth_get {l : List Pr} {k : Nat} (h : k < l.length) : nth l k = l[k] := nth_of (List.getElem?_eq_getElem h)
/-- Two pairs change places. -/
def swp (l : List Pr) (i j : Nat) : List Pr := (l.set i (nth l j)).set j (nth l i)
theorem swp_len (l : List Pr) (i j : Nat) : (swp l i j).length = l.length := by simp [swp]
theorem swp_perm {l : List Pr} {i j : Nat} (hi : i < l.length) (hj : j < l.length) : (swp l i j).Perm l := by
  unfold swp
  rw [nth_get hi, nth_get hj]
  exact List.set_set_perm hi hj
theorem nth_set {l : List Pr} {i : Nat} {p : Pr} (hi : i < l.length) (k : Nat) : nth (l.set i p) k = if k = i then p else nth l k := by
  unfold nth
  rw [List.getD_eq_getElem?_getD, List.getElem?_set, List.getD_eq_getElem?_getD]
  by_cases h : i = k
  · subst h; simp [hi]
  · rw [if_neg h, if_neg (fun e => h e.symm)]
theorem nth_swp {l : List Pr} {i j : Nat} (hi : i < l.length) (hj : j < l.length) (k : Nat) : nth (swp l i j) k = if k = j then nth l i else if k = i then nth l j else nth l k := by
  unfold swp
  rw [nth_set (by simpa using hj), nth_set hi]
/-- No pair is less than the one above it. -/
def Tre (l : List Pr) : Prop := ∀ k, 0 < k → k < l.length → le (nth l ((k - 1) / 2)) (nth l k)
/-- But for the pair number i, which may be less. -/
def Up (l : List Pr) (i : Nat) : Prop := (∀ k, 0 < k → k < l.length → k ≠ i → le (nth l ((k - 1) / 2)) (nth l k)) ∧ ∀ k, 0 < k → k < l.length → (k - 1) / 2 = i → 0 < i → le (nth l ((i - 1) / 2)) (nth l k)
/-- But for the pair number i, which may be greater than those below it. -/
def Dn (l : List Pr) (i : Nat) : Prop := (∀ k, 0 < k → k < l.length → (k - 1) / 2 ≠ i → le (nth l ((k - 1) / 2)) (nth l k)) ∧ ∀ k, 0 < k → k < l.length → (k - 1) / 2 = i → 0 < i → le (nth l ((i - 1) / 2)) (nth l k)
theorem tre_min {l : List Pr} (h : Tre l) : ∀ k, k < l.length → le (nth l 0) (nth l k) := fun k => by
  induction k using Nat.strongRecOn with
  | ind k ih =>
    intro hk
    by_cases h0 : k = 0
    · subst h0; exact le_refl _
    · exact le_trans (ih ((k - 1) / 2) (by omega) (by omega)) (h k (by omega) hk)
theorem nth_app {l : List Pr} {x : Pr} {k : Nat} (hk : k < l.length) : nth (l ++ [x]) k = nth l k := by
  unfold nth
  rw [List.getD_eq_getElem?_getD, List.getElem?_append_left hk, List.getD_eq_getElem?_getD]
theorem up_start {l : List Pr} (h : Tre l) (x : Pr) : Up (l ++ [x]) l.length := by
  refine ⟨fun k h0 hk hne => ?_, fun k h0 hk e _ => ?_⟩
  · have hk2 : k < l.length := by simp at hk; omega
    rw [nth_app hk2, nth_app (by omega)]
    exact h k h0 hk2
  · simp at hk; omega
theorem up_zero {l : List Pr} (h : Up l 0) : Tre l := fun k h0 hk => h.1 k h0 hk (by omega)
theorem up_end {l : List Pr} {i : Nat} (h : Up l i) (hi : le (nth l ((i - 1) / 2)) (nth l i)) : Tre l := fun k h0 hk => by
  by_cases e : k = i
  · subst e; exact hi
  · exact h.1 k h0 hk e
theorem up_go {l : List Pr} {i : Nat} (h : Up l i) (h0 : 0 < i) (hi : i < l.length) (hle : le (nth l i) (nth l ((i - 1) / 2))) : Up (swp l i ((i - 1) / 2)) ((i - 1) / 2) := by
  have hp : (i - 1) / 2 < l.length := by omega
  refine ⟨fun k k0 hk hne => ?_, fun k k0 hk e hp0 => ?_⟩
  · rw [swp_len] at hk
    rw [nth_swp hi hp, nth_swp hi hp]
    rw [if_neg hne]
    by_cases ek : k = i
    · subst ek; rw [if_pos rfl, if_pos rfl]; exact hle
    · rw [if_neg ek]
      by_cases e1 : (k - 1) / 2 = (i - 1) / 2
      · rw [if_pos e1]
        refine le_trans hle ?_
        rw [← e1]
        exact h.1 k k0 hk ek
      · rw [if_neg e1]
        by_cases e2 : (k - 1) / 2 = i
        · rw [if_pos e2]; exact h.2 k k0 hk e2 h0
        · rw [if_neg e2]; exact h.1 k k0 hk ek
  · rw [swp_len] at hk
    rw [nth_swp hi hp, nth_swp hi hp]
    have n1 : ((i - 1) / 2 - 1) / 2 ≠ (i - 1) / 2 := by omega
    have n2 : ((i - 1) / 2 - 1) / 2 ≠ i := by omega
    rw [if_neg n1, if_neg n2]
    have a1 := h.1 ((i - 1) / 2) hp0 hp (by omega)
    by_cases ek : k = i
    · subst ek
      rw [if_neg (by omega), if_pos rfl]
      exact a1
    · rw [if_neg (by omega), if_neg ek]
      have := h.1 k k0 hk ek
      rw [e] at this
      exact le_trans a1 this
theorem dn_end {l : List Pr} {i : Nat} (h : Dn l i) (hi : ∀ k, 0 < k → k < l.length → (k - 1) / 2 = i → le (nth l i) (nth l k)) : Tre l := fun k h0 hk => by
  by_cases e : (k - 1) / 2 = i
  · rw [e]; exact hi k h0 hk e
  · exact h.1 k h0 hk e
theorem dn_go {l : List Pr} {i b : Nat} (h : Dn l i) (hb0 : 0 < b) (hb : b < l.length) (e : (b - 1) / 2 = i) (hle : le (nth l b) (nth l i)) (hmin : ∀ k, 0 < k → k < l.length → (k - 1) / 2 = i → le (nth l b) (nth l k)) : Dn (swp l i b) b := by
  have hi : i < l.length := by omega
  refine ⟨fun k k0 hk hne => ?_, fun k k0 hk ek _ => ?_⟩
  · rw [swp_len] at hk
    rw [nth_swp hi hb, nth_swp hi hb, if_neg hne]
    by_cases e1 : (k - 1) / 2 = i
    · rw [if_pos e1]
      by_cases e2 : k = b
      · rw [if_pos e2]; exact hle
      · rw [if_neg e2, if_neg (by omega)]; exact hmin k k0 hk e1
    · rw [if_neg e1]
      by_cases e2 : k = b
      · subst e2; exact absurd e e1
      · rw [if_neg e2]
        by_cases e3 : k = i
        · subst e3
          rw [if_pos rfl]
          exact h.2 b hb0 hb e k0
        · rw [if_neg e3]; exact h.1 k k0 hk e1
  · rw [swp_len] at hk
    rw [nth_swp hi hb, nth_swp hi hb, e, if_neg (by omega), if_pos rfl, if_neg (by omega), if_neg (by omega)]
    have := h.1 k k0 hk (by omega)
    rw [ek] at this
    exact this
/-- The last pair is put into the first place, and the list cut. -/
def cutp (l : List Pr) : List Pr := (l.set 0 (nth l (l.length - 1))).take (l.length - 1)
theorem cutp_len (l : List Pr) : (cutp l).length = l.length - 1 := by simp [cutp]
theorem nth_cutp {l : List Pr} {k : Nat} (h0 : 0 < k) (hk : k < l.length - 1) : nth (cutp l) k = nth l k := by
  have h1 : nth (cutp l) k = nth (l.set 0 (nth l (l.length - 1))) k := by
    unfold nth cutp
    rw [List.getD_eq_getElem?_getD, List.getElem?_take_of_lt hk, ← List.getD_eq_getElem?_getD]
    rfl
  rw [h1, nth_set (by omega), if_neg (by omega)]
theorem dn_start {l : List Pr} (h : Tre l) : Dn (cutp l) 0 := by
  refine ⟨fun k k0 hk hne => ?_, fun k _ _ _ f => by omega⟩
  rw [cutp_len] at hk
  rw [nth_cutp k0 hk, nth_cutp (by omega) (by omega)]
  exact h k k0 (by omega)
theorem pop_perm {l t : List Pr} {x : Pr} (h : Tre l) (p : l.Perm (x :: t)) (hs : Srt (x :: t)) : nth l 0 = x ∧ (cutp l).Perm t := by
  have hl0 : 0 < l.length := by rw [p.length_eq]; simp
  obtain ⟨e, hp⟩ := take_least hs p 0 (nth l 0) (nth_at hl0) (fun z hz => by
    obtain ⟨j, hj, ej⟩ := List.getElem_of_mem hz
    have := tre_min h j hj
    rw [nth_get hj, ej] at this
    exact this)
  refine ⟨e, List.Perm.trans ?_ hp⟩
  match l, hl0 with
  | a :: m, _ =>
    simp only [List.take_zero, List.nil_append, Nat.zero_add, List.drop_succ_cons, List.drop_zero]
    rcases List.eq_nil_or_concat m with rfl | ⟨m', z, rfl⟩
    · exact List.Perm.refl _
    · unfold cutp
      have : nth (a :: (m' ++ [z])) ((a :: (m' ++ [z])).length - 1) = z := nth_of (by simp)
      simp only [List.concat_eq_append] at *
      rw [this]
      simp only [List.set_cons_zero, List.length_cons, List.length_append, List.length_nil, Nat.zero_add, Nat.add_sub_cancel, List.take_succ_cons]
      simp
      exact (List.perm_append_singleton z m').symm
theorem cutp_one {l : List Pr} (h : l.length = 1) : cutp l = [] := by
  apply List.eq_nil_of_length_eq_zero
  rw [cutp_len]; omega
end Hp16
