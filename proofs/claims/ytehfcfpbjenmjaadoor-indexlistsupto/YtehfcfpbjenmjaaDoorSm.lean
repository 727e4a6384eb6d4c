/- Mathematics of states, slots and properties; of no statement by itself. -/
import Derived.Test.YtehfcfpbjenmjaaDoorBoundB
namespace Go.Proofs.YtehfcfpbjenmjaaDoor
set_option linter.unusedVariables false

/-- A state; a symbol; properties. -/
structure Stt where
  n : Int
  a : Int
  b : Int
  c : Int
  d : Int
structure Sym where
  k : Int
  y : Int
  l : Int
  d : Int
structure Prp where
  lc : Int
  lp : Int
  pb : Int
namespace St12
def st0 : Stt := ⟨0, 1, 1, 1, 1⟩
def zero : Stt := ⟨0, 0, 0, 0, 0⟩
def okR (x : Int) : Prop := 1 ≤ x ∧ x ≤ 4294967295
instance (x : Int) : Decidable (okR x) := by unfold okR; exact inferInstance
def right (s : Stt) : Prop := (0 ≤ s.n ∧ s.n ≤ 11) ∧ okR s.a ∧ okR s.b ∧ okR s.c ∧ okR s.d
instance (s : Stt) : Decidable (right s) := by unfold right; exact inferInstance
/-- 0, or what is wrong with a symbol. -/
def formed (y : Sym) : Int :=
  if y.k = 1 ∨ y.k = 4 then 0
  else if y.k = 2 then (if (2 ≤ y.l ∧ y.l ≤ 273) ∧ 1 ≤ y.d ∧ y.d ≤ 4294967295 then 0 else 7)
  else if y.k = 3 then (if (2 ≤ y.l ∧ y.l ≤ 273) ∧ 0 ≤ y.d ∧ y.d ≤ 3 then 0 else 7)
  else 6
/-- The number behind a kind. -/
def mvd (n k : Int) : Int :=
  if k = 1 then (if n < 4 then 0 else if n < 10 then n - 3 else n - 6)
  else if 7 ≤ n then (if k = 2 then 10 else 11)
  else if k = 2 then 7 else if k = 3 then 8 else 9
/-- The distances behind a symbol. -/
def reps (s : Stt) (y : Sym) : Int × Int × Int × Int :=
  if y.k = 2 then (y.d, s.a, s.b, s.c)
  else if y.k = 3 then (if y.d = 1 then (s.b, s.a, s.c, s.d) else if y.d = 2 then (s.c, s.a, s.b, s.d) else if y.d = 3 then (s.d, s.a, s.b, s.c) else (s.a, s.b, s.c, s.d))
  else (s.a, s.b, s.c, s.d)
def nxt (s : Stt) (y : Sym) : Stt × Int :=
  if ¬ right s then (zero, 7)
  else if formed y ≠ 0 then (zero, formed y)
  else (⟨mvd s.n y.k, (reps s y).1, (reps s y).2.1, (reps s y).2.2.1, (reps s y).2.2.2⟩, 0)
def lit (n : Int) : Bool := decide (0 ≤ n) && decide (n ≤ 6)
theorem formed_vals (y : Sym) : formed y = 0 ∨ formed y = 6 ∨ formed y = 7 := by
  unfold formed
  split
  · exact .inl rfl
  · split
    · split
      · exact .inl rfl
      · exact .inr (.inr rfl)
    · split
      · split
        · exact .inl rfl
        · exact .inr (.inr rfl)
      · exact .inr (.inl rfl)
theorem formed_kind {y : Sym} (h : formed y = 0) : y.k = 1 ∨ (y.k = 2 ∧ 2 ≤ y.l ∧ y.l ≤ 273 ∧ 1 ≤ y.d ∧ y.d ≤ 4294967295) ∨ (y.k = 3 ∧ 2 ≤ y.l ∧ y.l ≤ 273 ∧ 0 ≤ y.d ∧ y.d ≤ 3) ∨ y.k = 4 := by
  unfold formed at h
  split at h
  · next h1 => rcases h1 with h1 | h1 <;> simp [h1]
  · split at h
    · next h2 =>
      split at h
      · next h3 => exact .inr (.inl ⟨h2, h3.1.1, h3.1.2, h3.2.1, h3.2.2⟩)
      · simp at h
    · split at h
      · next h2 =>
        split at h
        · next h3 => exact .inr (.inr (.inl ⟨h2, h3.1.1, h3.1.2, h3.2.1, h3.2.2⟩))
        · simp at h
      · simp at h
theorem nxt_right {s : Stt} {y : Sym} (h : right s) (hf : formed y = 0) : (nxt s y).2 = 0 ∧ right (nxt s y).1 := by
  have hk := formed_kind hf
  obtain ⟨⟨h1, h2⟩, ha, hb, hc, hd⟩ := h
  unfold nxt
  rw [if_neg (by simp; exact ⟨⟨h1, h2⟩, ha, hb, hc, hd⟩), if_neg (by simp [hf])]
  refine ⟨rfl, ?_⟩
  have hm : 0 ≤ mvd s.n y.k ∧ mvd s.n y.k ≤ 11 := by
    unfold mvd
    split
    · split
      · omega
      · split <;> omega
    · split
      · split <;> omega
      · split
        · omega
        · split <;> omega
  refine ⟨hm, ?_⟩
  unfold reps
  split
  · next e =>
    have : okR y.d := by
      rcases hk with k | k | k | k
      · omega
      · exact ⟨k.2.2.2.1, k.2.2.2.2⟩
      · omega
      · omega
    exact ⟨this, ha, hb, hc⟩
  · split
    · split
      · exact ⟨hb, ha, hc, hd⟩
      · split
        · exact ⟨hc, ha, hb, hd⟩
        · split
          · exact ⟨hd, ha, hb, hc⟩
          · exact ⟨ha, hb, hc, hd⟩
    · exact ⟨ha, hb, hc, hd⟩
/-- Bits of a slot; its least distance. -/
def bitsN (i : Nat) : Nat := if i < 4 then 0 else i / 2 - 1
def least : Nat → Nat
  | 0 => 1
  | i + 1 => least i + 2 ^ bitsN i
/-- The last of the first k slots whose least distance is not above. -/
def slotK (d : Nat) : Nat → Nat
  | 0 => 0
  | k + 1 => if least k ≤ d then k else slotK d k
def slotN (d : Nat) : Nat := slotK d 64
theorem least_lt (i : Nat) : least i < least (i + 1) := by
  show least i < least i + 2 ^ bitsN i
  have := Nat.two_pow_pos (bitsN i)
  omega
theorem least_mono {i j : Nat} (h : i ≤ j) : least i ≤ least j := by
  induction h with
  | refl => exact Nat.le_refl _
  | step _ ih => exact Nat.le_trans ih (Nat.le_of_lt (least_lt _))
theorem slotK_spec {d : Nat} (hd : 1 ≤ d) : ∀ k, 0 < k → slotK d k < k ∧ least (slotK d k) ≤ d ∧ ∀ j, slotK d k < j → j < k → d < least j
  | 0, h => by omega
  | k + 1, _ => by
    unfold slotK
    split
    · next h => exact ⟨by omega, h, fun j h1 h2 => by omega⟩
    · next h =>
      rcases Nat.eq_zero_or_pos k with e | e
      · subst e
        exact absurd hd (by simpa [least] using h)
      · obtain ⟨h1, h2, h3⟩ := slotK_spec hd k e
        refine ⟨by omega, h2, fun j g1 g2 => ?_⟩
        by_cases ej : j = k
        · subst ej; omega
        · exact h3 j g1 (by omega)
theorem slotN_lt {d : Nat} (hd : 1 ≤ d) : slotN d < 64 := (slotK_spec hd 64 (by omega)).1
theorem slotN_le {d : Nat} (hd : 1 ≤ d) : least (slotN d) ≤ d := (slotK_spec hd 64 (by omega)).2.1
theorem least64 : least 64 = 4294967297 := by decide +kernel
theorem slotN_top {d : Nat} (hd : 1 ≤ d) (hm : d ≤ 4294967295) : d < least (slotN d) + 2 ^ bitsN (slotN d) := by
  obtain ⟨h1, _, h3⟩ := slotK_spec hd 64 (by omega)
  show d < least (slotN d + 1)
  by_cases e : slotN d + 1 < 64
  · exact h3 _ (by show slotN d < slotN d + 1; omega) e
  · have : slotN d + 1 = 64 := by have := slotN_lt hd; omega
    rw [this, least64]
    omega
theorem slotN_is {d i : Nat} (hi : i < 64) (h1 : least i ≤ d) (h2 : d < least (i + 1)) : slotN d = i := by
  have hd : 1 ≤ d := Nat.le_trans (least_mono (Nat.zero_le i)) h1
  have a1 := slotN_le hd
  have a2 := slotN_lt hd
  have a3 := (slotK_spec hd 64 (by omega)).2.2
  by_cases e : slotN d < i
  · have := a3 i e hi
    omega
  · by_cases e2 : i < slotN d
    · have := least_mono (i := i + 1) (j := slotN d) e2
      omega
    · omega
theorem slotN_mono {a b : Nat} (ha : 1 ≤ a) (hab : a ≤ b) : slotN a ≤ slotN b := by
  have a1 := slotN_le ha
  have a2 := slotN_lt ha
  have a3 := (slotK_spec (d := b) (by omega) 64 (by omega)).2.2
  by_cases e : slotN b < slotN a
  · have := a3 (slotN a) e a2
    omega
  · omega
theorem bitsN_le {i : Nat} (hi : i < 64) : bitsN i ≤ 30 := by unfold bitsN; split <;> omega
theorem least_le {i : Nat} (hi : i < 64) : least i ≤ 3221225473 := by
  have := least_mono (i := i) (j := 63) (by omega)
  have e : least 63 = 3221225473 := by decide +kernel
  omega
/-- What Slot and Range answer. -/
def slotA (d : Int) : Int × Int := if 1 ≤ d ∧ d ≤ 4294967295 then ((slotN d.toNat : Int), 0) else (0, 7)
def rangeA (i : Int) : Int × Int × Int := if 0 ≤ i ∧ i ≤ 63 then ((least i.toNat : Int), (bitsN i.toNat : Int), 0) else (0, 0, 7)
/-- Properties. -/
def allow (p : Prp) : Prop := (0 ≤ p.lc ∧ 0 ≤ p.lp ∧ 0 ≤ p.pb) ∧ p.lc + p.lp ≤ 4 ∧ p.pb ≤ 4
instance (p : Prp) : Decidable (allow p) := by unfold allow; exact inferInstance
def byteP (p : Prp) : Int × Int := if allow p then ((5 * p.pb + p.lp) * 9 + p.lc, 0) else (0, 6)
/-- The properties that a byte would tell. -/
def told (b : Int) : Prp := ⟨b % 9, b / 9 % 5, b / 45⟩
def propsB (b : Int) : Prp × Int := if ¬ (0 ≤ b ∧ b ≤ 255) then (⟨0, 0, 0⟩, 7) else if allow (told b) then (told b, 0) else (⟨0, 0, 0⟩, 2)
theorem told_of {p : Prp} (h : allow p) : told ((5 * p.pb + p.lp) * 9 + p.lc) = p := by
  obtain ⟨lc, lp, pb⟩ := p
  obtain ⟨⟨h1, h2, h3⟩, h4, h5⟩ := h
  simp only at h1 h2 h3 h4 h5
  unfold told
  simp only [Prp.mk.injEq]
  omega
theorem of_told (b : Int) (h : 0 ≤ b ∧ b < 225) : (5 * (told b).pb + (told b).lp) * 9 + (told b).lc = b := by
  unfold told
  simp only
  omega
end St12
end Go.Proofs.YtehfcfpbjenmjaaDoor
