/- The mathematics of the landed window: the ring by places modulo the size, pieces read out of it, repetitions; of no statement by itself. -/
import Derived.Test.YthgibmhbgfjkcaaWring
namespace Go.Proofs.Ythgibmhbgfjkcaa
set_option linter.unusedVariables false

/-- The byte that came as number k lies at k modulo n. -/
def RM (n : Nat) (bs ring : List Nat) : Prop := RingOk n bs ring (bs.length % n)
theorem RM.len {n : Nat} {bs ring : List Nat} (h : RM n bs ring) : ring.length = min bs.length n := RingOk.len h
theorem RM.nil (n : Nat) : RM n [] [] := by
  unfold RM
  rw [List.length_nil, Nat.zero_mod]
  exact RingOk.nil n
theorem RM.of {n a : Nat} {bs ring : List Nat} (hn : 1 ≤ n) (h : RingOk n bs ring a) (ha : a = bs.length % n ∨ (a = n ∧ bs.length % n = 0)) : RM n bs ring := by
  rcases ha with e | ⟨e, e0⟩
  · rw [e] at h; exact h
  · subst e
    unfold RM
    rw [e0]
    exact h.turn
theorem mod_step (n L c : Nat) (hn : 1 ≤ n) (h : L % n + c ≤ n) : L % n + c = (L + c) % n ∨ (L % n + c = n ∧ (L + c) % n = 0) := by
  by_cases e : L % n + c = n
  · refine .inr ⟨e, ?_⟩
    rw [Nat.add_mod]
    by_cases e1 : n = 1
    · subst e1; exact Nat.mod_one _
    · by_cases e2 : c = n
      · subst e2; rw [Nat.mod_self, Nat.add_zero, Nat.mod_mod]; omega
      · rw [Nat.mod_eq_of_lt (show c < n by omega), e, Nat.mod_self]
  · refine .inl ?_
    rw [Nat.add_mod, Nat.mod_eq_of_lt (show c < n by omega), Nat.mod_eq_of_lt (show L % n + c < n by omega)]
theorem RM.grow {n : Nat} {bs ring : List Nat} (hn : 1 ≤ n) (h : RM n bs ring) (xs : List Nat) (hx : xs.length ≤ n - ring.length) : RM n (bs ++ xs) (ring ++ xs) := by
  by_cases hz : xs.length = 0
  · obtain rfl := List.eq_nil_of_length_eq_zero hz
    rw [List.append_nil, List.append_nil]
    exact h
  · have hl := h.len
    have hg := RingOk.grow h (by omega)
    have hp := RingOk.put h xs (by omega)
    rw [hg, List.take_length, List.drop_eq_nil_of_le (by omega), List.append_nil] at hp
    refine RM.of hn hp ?_
    rw [← hg, List.length_append]
    exact mod_step n bs.length xs.length hn (by omega)
theorem RM.lay {n : Nat} {bs ring : List Nat} (hn : 1 ≤ n) (h : RM n bs ring) (hf : ring.length = n) (xs : List Nat) (hx : bs.length % n + xs.length ≤ n) : RM n (bs ++ xs) (ring.take (bs.length % n) ++ (xs ++ ring.drop (bs.length % n + xs.length))) := by
  have hp := RingOk.put h xs hx
  rw [List.append_assoc] at hp
  refine RM.of hn hp ?_
  rw [List.length_append]
  exact mod_step n bs.length xs.length hn hx
theorem RM.at {n : Nat} {bs ring : List Nat} (hn : 1 ≤ n) (h : RM n bs ring) (d : Nat) (h1 : 1 ≤ d) (h2 : d ≤ ring.length) : ring[(bs.length - d) % n]? = some (backB bs d) := by
  have hl := h.len
  obtain ⟨ha, hb⟩ := RingOk.at h d h1 (by unfold fullN; omega)
  have hm := Nat.div_add_mod bs.length n
  have hlt := Nat.mod_lt bs.length (show 0 < n by omega)
  have hg := RingOk.grow h
  generalize bs.length / n = q at *
  generalize bs.length % n = p at *
  by_cases c : d ≤ p
  · have e : (bs.length - d) % n = p - d := by
      rw [show bs.length - d = p - d + n * q by omega, Nat.add_mul_mod_self_left, Nat.mod_eq_of_lt (by omega)]
    rw [e]
    exact ha c
  · have hfull : ring.length = n := by
      by_cases f : ring.length < n
      · have := hg f; omega
      · omega
    obtain ⟨q', rfl⟩ : ∃ q', q = q' + 1 := by
      cases q with
      | zero => simp at hm; omega
      | succ q' => exact ⟨q', rfl⟩
    have e : (bs.length - d) % n = p + ring.length - d := by
      rw [Nat.mul_succ] at hm
      rw [hfull, show bs.length - d = p + n - d + n * q' by omega, Nat.add_mul_mod_self_left, Nat.mod_eq_of_lt (by omega)]
    rw [e]
    exact hb (by omega)
/-- The bytes from a distance on, as the ring has them: up to its end, and then from its beginning on. -/
theorem RM.read {n : Nat} {bs ring : List Nat} (hn : 1 ≤ n) (h : RM n bs ring) (d j : Nat) (h1 : 1 ≤ d) (h2 : d ≤ ring.length) (hj : j ≤ d) :
    (bs.drop (bs.length - d)).take j = (ring.drop ((bs.length - d) % n)).take j ++ ring.take (j - (ring.length - (bs.length - d) % n)) := by
  have hl := h.len
  have hsl := Nat.mod_lt (bs.length - d) (show 0 < n by omega)
  have hat := h.at hn
  have hsr : (bs.length - d) % n < ring.length := by
    have := hat d h1 h2
    exact (List.getElem?_eq_some_iff.1 this).1
  have hk : ∀ i, i < j → bs[bs.length - d + i]? = ring[(bs.length - d + i) % n]? := fun i hi => by
    have e1 := hat (d - i) (by omega) (by omega)
    have e2 := backB_at (bs := bs) (d := d - i) (by omega) (by omega)
    rw [show bs.length - (d - i) = bs.length - d + i by omega] at e1 e2
    rw [e1, e2]
  have hmall : ring.length < n → (bs.length - d) % n = bs.length - d := fun f => Nat.mod_eq_of_lt (by omega)
  obtain ⟨s, hs⟩ : ∃ s, (bs.length - d) % n = s := ⟨_, rfl⟩
  rw [hs] at hsl hsr hmall ⊢
  have hmod : ∀ i, i < j → (bs.length - d + i) % n = if s + i < ring.length then s + i else s + i - ring.length := fun i hi => by
    rw [Nat.add_mod, hs, Nat.mod_eq_of_lt (show i < n by omega)]
    by_cases c : s + i < ring.length
    · rw [if_pos c, Nat.mod_eq_of_lt (by omega)]
    · rw [if_neg c]
      have hfull : ring.length = n := by
        by_cases f : ring.length < n
        · have := hmall f; omega
        · omega
      rw [hfull, show s + i = s + i - n + n by omega, Nat.add_mod_right, Nat.mod_eq_of_lt (by omega)]
      omega
  apply List.ext_getElem?
  intro i
  by_cases hi : i < j
  · rw [List.getElem?_take, if_pos hi, List.getElem?_drop, hk i hi, hmod i hi]
    by_cases c : s + i < ring.length
    · rw [if_pos c, List.getElem?_append_left (by rw [List.length_take, List.length_drop]; omega), List.getElem?_take, if_pos hi, List.getElem?_drop]
    · rw [if_neg c, List.getElem?_append_right (by rw [List.length_take, List.length_drop]; omega), List.length_take, List.length_drop, List.getElem?_take, if_pos (by omega)]
      congr 1
      omega
  · rw [List.getElem?_eq_none (by rw [List.length_take]; omega), List.getElem?_eq_none]
    rw [List.length_append, List.length_take, List.length_drop, List.length_take]
    omega
/-- What is copied first is what lies there. -/
theorem copyL_front {d j : Nat} {bs : List Nat} (h1 : 1 ≤ d) (h2 : d ≤ bs.length) (hj : j ≤ d) : copyL d bs j = (bs.drop (bs.length - d)).take j := by
  apply List.ext_getElem?
  intro i
  by_cases hi : i < j
  · rw [copyL_first h1 h2 hi (by omega), List.getElem?_take, if_pos hi, List.getElem?_drop]
  · rw [List.getElem?_eq_none (by rw [copyL_len]; omega), List.getElem?_eq_none (by rw [List.length_take]; omega)]
theorem copyL_take {d : Nat} (bs : List Nat) (a b : Nat) (h : a ≤ b) : (copyL d bs b).take a = copyL d bs a := by
  rw [show b = a + (b - a) by omega, copyL_add]
  exact List.take_left' (copyL_len _ _ _)
theorem copyL_times {d n : Nat} {bs : List Nat} (h1 : 1 ≤ d) (h2 : d ≤ bs.length) : ∀ (q i : Nat), i + d * q < n → (copyL d bs n)[i + d * q]? = (copyL d bs n)[i]?
  | 0, i, _ => by simp
  | q + 1, i, hi => by
    rw [Nat.mul_succ] at hi ⊢
    rw [copyL_then h1 h2 hi (by omega), show i + (d * q + d) - d = i + d * q by omega]
    exact copyL_times h1 h2 q i (by omega)
/-- A whole number of repetitions is laid behind itself. -/
theorem copyL_double {d a b : Nat} {bs : List Nat} (h1 : 1 ≤ d) (h2 : d ≤ bs.length) (hd : d ∣ a) (hb : b ≤ a) : copyL d bs (a + b) = copyL d bs a ++ (copyL d bs a).take b := by
  apply List.ext_getElem?
  intro i
  have hl := copyL_len d a bs
  by_cases hi : i < a
  · rw [List.getElem?_append_left (by omega), ← copyL_take (d := d) bs a (a + b) (by omega), List.getElem?_take, if_pos hi]
  · rw [List.getElem?_append_right (by omega), hl, List.getElem?_take]
    by_cases c : i < a + b
    · rw [if_pos (by omega)]
      obtain ⟨q, rfl⟩ := hd
      rw [← copyL_take (d := d) bs (d * q) (d * q + b) (by omega), List.getElem?_take, if_pos (by omega)]
      have := copyL_times (n := d * q + b) h1 h2 q (i - d * q) (by omega)
      rw [show i - d * q + d * q = i by omega] at this
      exact this
    · rw [if_neg (by omega), List.getElem?_eq_none (by rw [copyL_len]; omega)]
end Go.Proofs.Ythgibmhbgfjkcaa
