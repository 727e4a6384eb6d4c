/- Several texts in one, none of a statement by itself: Rc, Wm, Wb, Ct, By, Cqm. -/
import Derived.Test.YtehfcfpbjenmjaaDoorBoundA
import Derived.BigQuiet
import Derived.Deep.QuietTactic
import Derived.Laws.AppendOwnNone
/- The range encoder over the natural numbers: its low end, its range, its shifts; that what follows a bit lies in the bit's part; digits to the base 256 and their order; of no statement by itself. -/
namespace Go.Proofs.YtehfcfpbjenmjaaDoor.Rc

/-- Low end, range, shifts. -/
structure E where
  L : Nat
  R : Nat
  k : Nat

structure Ok (e : E) : Prop where
  lo : 16777216 ≤ e.R
  hi : e.R ≤ 4294967295
  sum : e.L + e.R ≤ 4294967296 * 256 ^ e.k

def start : E := ⟨0, 4294967295, 0⟩
theorem start_ok : Ok start := ⟨by decide, by decide, by decide⟩

/-- Once, where it must be. -/
def widen (e : E) : E := if e.R < 16777216 then ⟨256 * e.L, 256 * e.R, e.k + 1⟩ else e
def part (e : E) (b : Nat) (one : Bool) : E := if one then ⟨e.L + b, e.R - b, e.k⟩ else ⟨e.L, b, e.k⟩
def cut (e : E) (b : Nat) (one : Bool) : E := widen (part e b one)
/-- A bit without a probability. -/
def hpart (e : E) (one : Bool) : E := if one then ⟨e.L + e.R / 2, e.R / 2, e.k⟩ else ⟨e.L, e.R / 2, e.k⟩
def half (e : E) (one : Bool) : E := widen (hpart e one)

/-- f lies in e. -/
structure Within (e f : E) : Prop where
  k : e.k ≤ f.k
  low : e.L * 256 ^ (f.k - e.k) ≤ f.L
  high : f.L + f.R ≤ (e.L + e.R) * 256 ^ (f.k - e.k)

theorem Within.refl (e : E) : Within e e := ⟨Nat.le_refl _, by simp, by simp⟩
theorem Within.trans {e f g : E} (h : Within e f) (i : Within f g) : Within e g := by
  have hk := h.k
  have ik := i.k
  have hp : 256 ^ (g.k - e.k) = 256 ^ (f.k - e.k) * 256 ^ (g.k - f.k) := by rw [← Nat.pow_add]; congr 1; omega
  refine ⟨by omega, ?_, ?_⟩
  · rw [hp, ← Nat.mul_assoc]
    exact Nat.le_trans (Nat.mul_le_mul_right _ h.low) i.low
  · rw [hp, ← Nat.mul_assoc]
    exact Nat.le_trans i.high (Nat.mul_le_mul_right _ h.high)

theorem widen_within (e : E) : Within e (widen e) := by
  unfold widen
  split
  · refine ⟨by simp, ?_, ?_⟩
    · show e.L * 256 ^ (e.k + 1 - e.k) ≤ 256 * e.L
      rw [Nat.add_sub_cancel_left, Nat.pow_one]
      omega
    · show 256 * e.L + 256 * e.R ≤ (e.L + e.R) * 256 ^ (e.k + 1 - e.k)
      rw [Nat.add_sub_cancel_left, Nat.pow_one]
      omega
  · exact Within.refl e

theorem part_within {e : E} {b : Nat} (hb : b ≤ e.R) (one : Bool) : Within e (part e b one) := by
  cases one
  · exact ⟨Nat.le_refl _, by simp [part], by simp [part]; omega⟩
  · exact ⟨Nat.le_refl _, by simp [part], by simp [part]; omega⟩
theorem hpart_within (e : E) (one : Bool) : Within e (hpart e one) := by
  cases one
  · exact ⟨Nat.le_refl _, by simp [hpart], by simp [hpart]; omega⟩
  · exact ⟨Nat.le_refl _, by simp [hpart], by simp [hpart]; omega⟩
theorem cut_within {e : E} {b : Nat} (hb : b ≤ e.R) (one : Bool) : Within e (cut e b one) := (part_within hb one).trans (widen_within _)
theorem half_within (e : E) (one : Bool) : Within e (half e one) := (hpart_within e one).trans (widen_within _)

theorem widen_ok {e : E} (lo : 65536 ≤ e.R) (hi : e.R ≤ 4294967295) (sum : e.L + e.R ≤ 4294967296 * 256 ^ e.k) : Ok (widen e) := by
  unfold widen
  split
  · refine ⟨?_, ?_, ?_⟩
    · show 16777216 ≤ 256 * e.R
      omega
    · show 256 * e.R ≤ 4294967295
      omega
    · show 256 * e.L + 256 * e.R ≤ 4294967296 * 256 ^ (e.k + 1)
      rw [Nat.pow_succ, ← Nat.mul_assoc]
      omega
  · exact ⟨by omega, hi, sum⟩
theorem cut_ok {e : E} (h : Ok e) {b : Nat} (h1 : 65536 ≤ b) (h2 : b + 65536 ≤ e.R) (one : Bool) : Ok (cut e b one) := by
  have := h.hi
  have hs := h.sum
  cases one
  · exact widen_ok (e := ⟨e.L, b, e.k⟩) h1 (by show b ≤ _; omega) (by show e.L + b ≤ 4294967296 * 256 ^ e.k; omega)
  · exact widen_ok (e := ⟨e.L + b, e.R - b, e.k⟩) (by show _ ≤ e.R - b; omega) (by show e.R - b ≤ _; omega) (by show e.L + b + (e.R - b) ≤ 4294967296 * 256 ^ e.k; omega)
theorem half_ok {e : E} (h : Ok e) (one : Bool) : Ok (half e one) := by
  have := h.lo
  have := h.hi
  have hs := h.sum
  cases one
  · exact widen_ok (e := ⟨e.L, e.R / 2, e.k⟩) (by show _ ≤ e.R / 2; omega) (by show e.R / 2 ≤ _; omega) (by show e.L + e.R / 2 ≤ 4294967296 * 256 ^ e.k; omega)
  · exact widen_ok (e := ⟨e.L + e.R / 2, e.R / 2, e.k⟩) (by show _ ≤ e.R / 2; omega) (by show e.R / 2 ≤ _; omega) (by show e.L + e.R / 2 + e.R / 2 ≤ 4294967296 * 256 ^ e.k; omega)

/-- The place at which a range is cut leaves both parts enough. -/
theorem bound_in {R p : Nat} (hR : 16777216 ≤ R) (h1 : 31 ≤ p) (h2 : p ≤ 2017) : 65536 ≤ R / 2048 * p ∧ R / 2048 * p + 65536 ≤ R := by
  have a1 : R / 2048 * 31 ≤ R / 2048 * p := Nat.mul_le_mul_left _ h1
  have a2 : R / 2048 * p ≤ R / 2048 * 2017 := Nat.mul_le_mul_left _ h2
  omega

/-- What follows a 0 is below what follows a 1. -/
theorem order {L m : Nat} {z f o g : E} (hz : Within z f) (ho : Within o g) (hzk : z.k = m) (hok : o.k = m) (hzL : z.L + z.R = L) (hoL : L ≤ o.L) (hf : 0 < f.R) : f.L * 256 ^ g.k < g.L * 256 ^ f.k := by
  have h1 : f.L < L * 256 ^ (f.k - m) := by
    have := hz.high
    rw [hzL, hzk] at this
    omega
  have h2 : L * 256 ^ (g.k - m) ≤ g.L := by
    have := ho.low
    rw [hok] at this
    exact Nat.le_trans (Nat.mul_le_mul_right _ hoL) this
  have k1 := hz.k
  have k2 := ho.k
  rw [hzk] at k1
  rw [hok] at k2
  have e1 : L * 256 ^ (f.k - m) * 256 ^ g.k = L * 256 ^ (g.k - m) * 256 ^ f.k := by
    rw [Nat.mul_assoc, Nat.mul_assoc, ← Nat.pow_add, ← Nat.pow_add, show f.k - m + g.k = g.k - m + f.k by omega]
  calc f.L * 256 ^ g.k < L * 256 ^ (f.k - m) * 256 ^ g.k := Nat.mul_lt_mul_of_pos_right h1 (Nat.pow_pos (by omega))
    _ = L * 256 ^ (g.k - m) * 256 ^ f.k := e1
    _ ≤ g.L * 256 ^ f.k := Nat.mul_le_mul_right _ h2
/-- What follows is not below. -/
theorem after {e f : E} (h : Within e f) : e.L * 256 ^ f.k ≤ f.L * 256 ^ e.k := by
  have h1 := h.low
  have hk := h.k
  have e1 : e.L * 256 ^ f.k = e.L * 256 ^ (f.k - e.k) * 256 ^ e.k := by
    rw [Nat.mul_assoc, ← Nat.pow_add, show f.k - e.k + e.k = f.k by omega]
  rw [e1]
  exact Nat.mul_le_mul_right _ h1

/-- The n lowest digits to the base 256, the highest first. -/
def dg : Nat → Nat → List Nat
  | 0, _ => []
  | n + 1, L => dg n (L / 256) ++ [L % 256]
def val : List Nat → Nat
  | [] => 0
  | x :: xs => x * 256 ^ xs.length + val xs
def Dig (l : List Nat) : Prop := ∀ x ∈ l, x < 256
theorem dg_len : ∀ n L, (dg n L).length = n
  | 0, _ => rfl
  | n + 1, L => by simp [dg, dg_len n]
theorem dg_dig : ∀ n L, Dig (dg n L)
  | 0, _, x, h => by cases h
  | n + 1, L, x, h => by
    simp only [dg, List.mem_append, List.mem_singleton] at h
    rcases h with h | h
    · exact dg_dig n _ x h
    · omega
theorem val_append (a b : List Nat) : val (a ++ b) = val a * 256 ^ b.length + val b := by
  induction a with
  | nil => simp [val]
  | cons x xs ih => simp only [List.cons_append, val, List.length_append, ih, Nat.pow_add, Nat.add_mul, Nat.mul_assoc, Nat.add_assoc]
theorem val_dg : ∀ n L, L < 256 ^ n → val (dg n L) = L
  | 0, L, h => by simp at h; subst h; rfl
  | n + 1, L, h => by
    have h1 : L / 256 < 256 ^ n := by
      rw [Nat.div_lt_iff_lt_mul (by omega), ← Nat.pow_succ]
      exact h
    rw [dg, val_append, val_dg n _ h1]
    simp [val]
    omega
theorem val_lt : ∀ {l : List Nat}, Dig l → val l < 256 ^ l.length
  | [], _ => by simp [val]
  | x :: xs, h => by
    have h1 := val_lt (l := xs) (fun y hy => h y (by simp [hy]))
    have h2 : x < 256 := h x (by simp)
    simp only [val, List.length_cons, Nat.pow_succ]
    have h3 : x * 256 ^ xs.length ≤ 255 * 256 ^ xs.length := Nat.mul_le_mul_right _ (by omega)
    omega
theorem val_inj : ∀ {a b : List Nat}, Dig a → Dig b → a.length = b.length → val a = val b → a = b
  | [], [], _, _, _, _ => rfl
  | [], _ :: _, _, _, h, _ => by simp at h
  | _ :: _, [], _, _, h, _ => by simp at h
  | x :: xs, y :: ys, ha, hb, hl, h => by
    have v1 := val_lt (l := xs) (fun z hz => ha z (by simp [hz]))
    have v2 := val_lt (l := ys) (fun z hz => hb z (by simp [hz]))
    have hl2 : xs.length = ys.length := by simpa using hl
    simp only [val] at h
    rw [hl2] at h v1
    have hxy : x = y := by
      rcases Nat.lt_trichotomy x y with c | c | c
      · have := Nat.mul_le_mul_right (256 ^ ys.length) c
        rw [Nat.succ_mul] at this
        omega
      · exact c
      · have := Nat.mul_le_mul_right (256 ^ ys.length) c
        rw [Nat.succ_mul] at this
        omega
    subst hxy
    rw [val_inj (fun z hz => ha z (by simp [hz])) (fun z hz => hb z (by simp [hz])) hl2 (by omega)]
theorem dg_val {l : List Nat} (h : Dig l) : dg l.length (val l) = l :=
  val_inj (dg_dig _ _) h (dg_len _ _) (val_dg _ _ (val_lt h))
/-- One digit of a sum, from behind. -/
theorem sum_step (c d x t V n : Nat) (h : c * 256 ^ n + t = x + V) : (c + d) / 256 * 256 ^ (n + 1) + ((c + d) % 256 * 256 ^ n + t) = x + (d * 256 ^ n + V) := by
  have e : (c + d) / 256 * 256 ^ (n + 1) + (c + d) % 256 * 256 ^ n = (c + d) * 256 ^ n := by
    rw [Nat.pow_succ, Nat.mul_comm (256 ^ n) 256, ← Nat.mul_assoc, ← Nat.add_mul]
    congr 1
    omega
  rw [← Nat.add_assoc, e, Nat.add_mul]
  omega
/-- A byte behind: 256 times as much. -/
theorem dg_shift (n L : Nat) : dg (n + 1) (256 * L) = dg n L ++ [0] := by simp [dg]

/-- Byte by byte; the shorter is below. -/
def ltL : List Nat → List Nat → Prop
  | _, [] => False
  | [], _ :: _ => True
  | a :: as, b :: bs => a < b ∨ (a = b ∧ ltL as bs)

theorem lex_lt : ∀ {a b : List Nat}, Dig a → Dig b → val a * 256 ^ b.length < val b * 256 ^ a.length → ltL a b
  | _, [], _, _, h => by simp [val] at h
  | [], _ :: _, _, _, _ => trivial
  | x :: xs, y :: ys, ha, hb, h => by
    have v1 := val_lt (l := xs) (fun z hz => ha z (by simp [hz]))
    have v2 := val_lt (l := ys) (fun z hz => hb z (by simp [hz]))
    by_cases hxy : x < y
    · exact .inl hxy
    · by_cases hyx : y < x
      · exfalso
        simp only [val, List.length_cons] at h
        have p1 : (y + 1) * 256 ^ xs.length ≤ x * 256 ^ xs.length + val xs := Nat.le_trans (Nat.mul_le_mul_right _ hyx) (Nat.le_add_right _ _)
        have p2 : y * 256 ^ ys.length + val ys ≤ (y + 1) * 256 ^ ys.length := by rw [Nat.add_mul, Nat.one_mul]; omega
        have q1 := Nat.mul_le_mul_right (256 ^ (ys.length + 1)) p1
        have q2 := Nat.mul_le_mul_right (256 ^ (xs.length + 1)) p2
        have e : (y + 1) * 256 ^ ys.length * 256 ^ (xs.length + 1) = (y + 1) * 256 ^ xs.length * 256 ^ (ys.length + 1) := by
          rw [Nat.mul_assoc, Nat.mul_assoc, ← Nat.pow_add, ← Nat.pow_add, show ys.length + (xs.length + 1) = xs.length + (ys.length + 1) by omega]
        omega
      · have e : x = y := by omega
        subst e
        refine .inr ⟨rfl, lex_lt (fun z hz => ha z (by simp [hz])) (fun z hz => hb z (by simp [hz])) ?_⟩
        simp only [val, List.length_cons, Nat.add_mul] at h
        have e : x * 256 ^ ys.length * 256 ^ (xs.length + 1) = x * 256 ^ xs.length * 256 ^ (ys.length + 1) := by
          rw [Nat.mul_assoc, Nat.mul_assoc, ← Nat.pow_add, ← Nat.pow_add, show ys.length + (xs.length + 1) = xs.length + (ys.length + 1) by omega]
        have h2 : val xs * 256 ^ (ys.length + 1) < val ys * 256 ^ (xs.length + 1) := by omega
        rw [Nat.pow_succ, Nat.pow_succ, ← Nat.mul_assoc, ← Nat.mul_assoc] at h2
        omega
theorem lex_le : ∀ {a b : List Nat}, Dig a → Dig b → a.length ≤ b.length → val a * 256 ^ b.length ≤ val b * 256 ^ a.length → a = b ∨ ltL a b
  | [], [], _, _, _, _ => .inl rfl
  | _ :: _, [], _, _, h, _ => by simp at h
  | [], _ :: _, _, _, _, _ => .inr trivial
  | x :: xs, y :: ys, ha, hb, hl, h => by
    by_cases hlt : val (x :: xs) * 256 ^ (y :: ys).length < val (y :: ys) * 256 ^ (x :: xs).length
    · exact .inr (lex_lt ha hb hlt)
    · have v1 := val_lt (l := xs) (fun z hz => ha z (by simp [hz]))
      have v2 := val_lt (l := ys) (fun z hz => hb z (by simp [hz]))
      have heq : val (x :: xs) * 256 ^ (y :: ys).length = val (y :: ys) * 256 ^ (x :: xs).length := by omega
      simp only [val, List.length_cons] at heq
      have hxy : ¬ x < y := fun hxy => by
        have p1 : x * 256 ^ xs.length + val xs + 1 ≤ (x + 1) * 256 ^ xs.length := by rw [Nat.add_mul, Nat.one_mul]; omega
        have p2 : (x + 1) * 256 ^ ys.length ≤ y * 256 ^ ys.length + val ys := Nat.le_trans (Nat.mul_le_mul_right _ hxy) (Nat.le_add_right _ _)
        have q1 := Nat.mul_le_mul_right (256 ^ (ys.length + 1)) p1
        have q2 := Nat.mul_le_mul_right (256 ^ (xs.length + 1)) p2
        have e : (x + 1) * 256 ^ ys.length * 256 ^ (xs.length + 1) = (x + 1) * 256 ^ xs.length * 256 ^ (ys.length + 1) := by
          rw [Nat.mul_assoc, Nat.mul_assoc, ← Nat.pow_add, ← Nat.pow_add, show ys.length + (xs.length + 1) = xs.length + (ys.length + 1) by omega]
        have pos : 0 < 256 ^ (ys.length + 1) := Nat.pow_pos (by omega)
        rw [Nat.add_mul, Nat.one_mul] at q1
        omega
      have hyx : ¬ y < x := fun hyx => by
        have p1 : y * 256 ^ ys.length + val ys + 1 ≤ (y + 1) * 256 ^ ys.length := by rw [Nat.add_mul, Nat.one_mul]; omega
        have p2 : (y + 1) * 256 ^ xs.length ≤ x * 256 ^ xs.length + val xs := Nat.le_trans (Nat.mul_le_mul_right _ hyx) (Nat.le_add_right _ _)
        have q1 := Nat.mul_le_mul_right (256 ^ (xs.length + 1)) p1
        have q2 := Nat.mul_le_mul_right (256 ^ (ys.length + 1)) p2
        have e : (y + 1) * 256 ^ ys.length * 256 ^ (xs.length + 1) = (y + 1) * 256 ^ xs.length * 256 ^ (ys.length + 1) := by
          rw [Nat.mul_assoc, Nat.mul_assoc, ← Nat.pow_add, ← Nat.pow_add, show ys.length + (xs.length + 1) = xs.length + (ys.length + 1) by omega]
        have pos : 0 < 256 ^ (xs.length + 1) := Nat.pow_pos (by omega)
        rw [Nat.add_mul, Nat.one_mul] at q1
        omega
      have e : x = y := by omega
      subst e
      have h2 : val xs * 256 ^ ys.length ≤ val ys * 256 ^ xs.length := by
        simp only [Nat.add_mul] at heq
        have e : x * 256 ^ ys.length * 256 ^ (xs.length + 1) = x * 256 ^ xs.length * 256 ^ (ys.length + 1) := by
          rw [Nat.mul_assoc, Nat.mul_assoc, ← Nat.pow_add, ← Nat.pow_add, show ys.length + (xs.length + 1) = xs.length + (ys.length + 1) by omega]
        have h3 : val xs * 256 ^ (ys.length + 1) = val ys * 256 ^ (xs.length + 1) := by omega
        rw [Nat.pow_succ, Nat.pow_succ, ← Nat.mul_assoc, ← Nat.mul_assoc] at h3
        omega
      rcases lex_le (fun z hz => ha z (by simp [hz])) (fun z hz => hb z (by simp [hz])) (by simpa using hl) h2 with h4 | h4
      · exact .inl (by rw [h4])
      · exact .inr (.inr ⟨rfl, h4⟩)

/-- The bytes. -/
def by_ (e : E) : List Nat := dg (e.k + 5) e.L
theorem Ok.lt {e : E} (h : Ok e) : e.L < 256 ^ (e.k + 5) := by
  have h1 := h.sum
  have h2 := h.lo
  have e1 : 256 ^ (e.k + 5) = 256 ^ e.k * 1099511627776 := by rw [Nat.pow_add]
  have pos : 0 < 256 ^ e.k := Nat.pow_pos (by omega)
  omega
theorem by_lt {f g : E} (hf : Ok f) (hg : Ok g) (h : f.L * 256 ^ g.k < g.L * 256 ^ f.k) : ltL (by_ f) (by_ g) := by
  refine lex_lt (dg_dig _ _) (dg_dig _ _) ?_
  unfold by_
  rw [dg_len, dg_len, val_dg _ _ hf.lt, val_dg _ _ hg.lt, Nat.pow_add, Nat.pow_add, ← Nat.mul_assoc, ← Nat.mul_assoc]
  omega
theorem by_le {f g : E} (hf : Ok f) (hg : Ok g) (hk : f.k ≤ g.k) (h : f.L * 256 ^ g.k ≤ g.L * 256 ^ f.k) : by_ f = by_ g ∨ ltL (by_ f) (by_ g) := by
  refine lex_le (dg_dig _ _) (dg_dig _ _) ?_ ?_
  · unfold by_
    rw [dg_len, dg_len]
    omega
  · unfold by_
    rw [dg_len, dg_len, val_dg _ _ hf.lt, val_dg _ _ hg.lt, Nat.pow_add, Nat.pow_add, ← Nat.mul_assoc, ← Nat.mul_assoc]
    omega

/-- The range behind n bits without a probability. -/
def dirs (n : Nat) : Nat := if n < 8 then 4294967295 / 2 ^ n else 4294967040 / 2 ^ (n % 8)
theorem half_R (e : E) (one : Bool) : (half e one).R = if e.R / 2 < 16777216 then 256 * (e.R / 2) else e.R / 2 := by cases one <;> (simp only [half, widen, hpart, Bool.false_eq_true, if_false, if_true]; split <;> rfl)
theorem half_k (e : E) (one : Bool) : (half e one).k = if e.R / 2 < 16777216 then e.k + 1 else e.k := by cases one <;> (simp only [half, widen, hpart, Bool.false_eq_true, if_false, if_true]; split <;> rfl)
theorem direct_step {e : E} {n : Nat} (hR : e.R = dirs n) (hk : e.k = n / 8) (one : Bool) : (half e one).R = dirs (n + 1) ∧ (half e one).k = (n + 1) / 8 := by
  rw [half_R, half_k, hR, hk]
  by_cases hn : n < 8
  · have hc : n = 0 ∨ n = 1 ∨ n = 2 ∨ n = 3 ∨ n = 4 ∨ n = 5 ∨ n = 6 ∨ n = 7 := by omega
    rcases hc with rfl | rfl | rfl | rfl | rfl | rfl | rfl | rfl <;> decide
  · obtain ⟨q, r, hr, rfl⟩ : ∃ q r, r < 8 ∧ n = 8 * q + r := ⟨n / 8, n % 8, Nat.mod_lt _ (by omega), by omega⟩
    have e1 : dirs (8 * q + r) = 4294967040 / 2 ^ r := by unfold dirs; rw [if_neg hn, show (8 * q + r) % 8 = r by omega]
    rw [e1]
    have hc : r = 0 ∨ r = 1 ∨ r = 2 ∨ r = 3 ∨ r = 4 ∨ r = 5 ∨ r = 6 ∨ r = 7 := by omega
    have e2 : dirs (8 * q + r + 1) = 4294967040 / 2 ^ ((r + 1) % 8) := by unfold dirs; rw [if_neg (by omega), show (8 * q + r + 1) % 8 = (r + 1) % 8 by omega]
    rw [e2]
    rcases hc with rfl | rfl | rfl | rfl | rfl | rfl | rfl | rfl <;> simp <;> omega
end Go.Proofs.YtehfcfpbjenmjaaDoor.Rc

/- The mathematics of windows: the last bytes, what is copied; of no statement by itself. -/
namespace Go.Proofs.YtehfcfpbjenmjaaDoor
set_option linter.unusedVariables false

/-- How many bytes a window of that size holds; the byte that came d bytes ago; what is copied. -/
def fullN (size : Nat) (bs : List Nat) : Nat := min bs.length size
def backB (bs : List Nat) (d : Nat) : Nat := bs.getD (bs.length - d) 0
def copyL (d : Nat) : List Nat → Nat → List Nat
  | _, 0 => []
  | bs, n + 1 => backB bs d :: copyL d (bs ++ [backB bs d]) n
theorem copyL_len (d : Nat) : ∀ (n : Nat) (bs : List Nat), (copyL d bs n).length = n
  | 0, _ => rfl
  | n + 1, bs => by simp [copyL, copyL_len d n]
theorem copyL_add (d : Nat) : ∀ (a b : Nat) (bs : List Nat), copyL d bs (a + b) = copyL d bs a ++ copyL d (bs ++ copyL d bs a) b
  | 0, b, bs => by simp [copyL]
  | a + 1, b, bs => by
    rw [show a + 1 + b = (a + b) + 1 by omega]
    simp only [copyL, copyL_add d a b, List.cons_append, List.append_assoc, List.nil_append]
theorem copyL_snoc (d n : Nat) (bs : List Nat) : copyL d bs (n + 1) = copyL d bs n ++ [backB (bs ++ copyL d bs n) d] := by
  rw [copyL_add d n 1 bs]
  rfl
theorem backB_mem {bs : List Nat} {d : Nat} (h1 : 1 ≤ d) (h2 : d ≤ bs.length) : backB bs d ∈ bs := by
  unfold backB
  have h : bs.length - d < bs.length := by omega
  rw [List.getD_eq_getElem?_getD, List.getElem?_eq_getElem h]
  exact List.getElem_mem h
theorem backB_at {bs : List Nat} {d : Nat} (h1 : 1 ≤ d) (h2 : d ≤ bs.length) : bs[bs.length - d]? = some (backB bs d) := by
  unfold backB
  have h : bs.length - d < bs.length := by omega
  rw [List.getD_eq_getElem?_getD, List.getElem?_eq_getElem h]
  rfl
theorem copyL_dig {d : Nat} (h1 : 1 ≤ d) : ∀ (n : Nat) {bs : List Nat}, d ≤ bs.length → Rc.Dig bs → Rc.Dig (copyL d bs n)
  | 0, _, _, _ => fun x hx => (List.not_mem_nil hx).elim
  | n + 1, bs, h2, hd => by
    have hb := hd _ (backB_mem h1 h2)
    have hd2 : Rc.Dig (bs ++ [backB bs d]) := fun x hx => by
      rcases List.mem_append.1 hx with f | f
      · exact hd x f
      · rw [List.mem_singleton.1 f]; exact hb
    have ih := copyL_dig h1 n (bs := bs ++ [backB bs d]) (by rw [List.length_append]; omega) hd2
    intro x hx
    rcases List.mem_cons.1 hx with f | f
    · rw [f]; exact hb
    · exact ih x f
/-- A byte that is copied is the one d places ahead of it, among all that came. -/
theorem copyL_at {d : Nat} (h1 : 1 ≤ d) : ∀ (n : Nat) {bs : List Nat} (i : Nat), d ≤ bs.length → i < n → (copyL d bs n)[i]? = (bs ++ copyL d bs n)[bs.length + i - d]?
  | 0, bs, i, _, hi => absurd hi (Nat.not_lt_zero _)
  | n + 1, bs, 0, h2, hi => by
    rw [List.getElem?_append_left (by omega), show bs.length + 0 - d = bs.length - d by omega, backB_at h1 h2]
    rfl
  | n + 1, bs, i + 1, h2, hi => by
    have ih := copyL_at h1 n (bs := bs ++ [backB bs d]) i (by rw [List.length_append]; omega) (by omega)
    show (copyL d (bs ++ [backB bs d]) n)[i]? = _
    rw [ih, List.append_assoc, List.length_append, List.length_singleton, show bs.length + 1 + i - d = bs.length + (i + 1) - d by omega]
    rfl
theorem copyL_first {d n i : Nat} {bs : List Nat} (h1 : 1 ≤ d) (h2 : d ≤ bs.length) (hi : i < n) (hd : i < d) : (copyL d bs n)[i]? = bs[bs.length - d + i]? := by
  rw [copyL_at h1 n i h2 hi, List.getElem?_append_left (by omega), show bs.length + i - d = bs.length - d + i by omega]
theorem copyL_then {d n i : Nat} {bs : List Nat} (h1 : 1 ≤ d) (h2 : d ≤ bs.length) (hi : i < n) (hd : d ≤ i) : (copyL d bs n)[i]? = (copyL d bs n)[i - d]? := by
  rw [copyL_at h1 n i h2 hi, List.getElem?_append_right (by omega), show bs.length + i - d - bs.length = i - d by omega]
end Go.Proofs.YtehfcfpbjenmjaaDoor

/- What the window's texts stand on: numbers as bytes, lists of one's own, strings made of them; of no statement by itself. -/
namespace Go.Proofs.YtehfcfpbjenmjaaDoor
open Go.RowKit
set_option linter.unusedVariables false

/-- A number of 64 bits. -/
def I64 (p : Int) : Prop := -9223372036854775808 ≤ p ∧ p ≤ 9223372036854775807
/-- Natural numbers as the model's. -/
def nums (l : List Nat) : List Int := l.map fun (n : Nat) => (n : Int)
theorem nums_len (l : List Nat) : (nums l).length = l.length := by simp [nums]
theorem nums_at (l : List Nat) (j : Nat) (h : j < l.length) : (nums l)[j]'(by rw [nums_len]; exact h) = (l[j] : Int) := by simp [nums]
theorem infoU8 : (Tryd.prog.info? 5).map (fun i => (i.zero, i.size, i.bytes)) = some (some (.int .u8 0), 1, 1) := by kernel_rfl
theorem own_from {w : World} {B : Nat} {e : TypeId} {ad : Option Addr} {c n : Nat} {xs : List Value} (h : w.ownsRow B e 1 (.slice ad n c) n xs) : From w ad n c 1 xs := by
  refine ⟨h.1, ?_⟩
  rcases h.2 with ⟨e0, e1⟩ | ⟨g, cap, cur, e0, _⟩
  · simp only [Value.slice.injEq] at e0
    exact .inl ⟨e0.1, e1, e0.2.2⟩
  · simp only [Value.slice.injEq, true_and] at e0
    obtain ⟨rfl, rfl⟩ := e0
    exact .inr ⟨_, rfl, fun j u hu => h.cells (g := g) rfl j u hu⟩
theorem From.keep {w w' : World} {ad : Option Addr} {m c size : Nat} {news : List Value} (h : From w ad m c size news) (hc : Chg (fun _ => False) w w') : From w' ad m c size news := by
  refine ⟨h.1, ?_⟩
  rcases h.2 with e | ⟨x, rfl, hx⟩
  · exact .inl e
  · exact .inr ⟨x, rfl, fun j u hu => cell_chg (hx j u hu) hc⟩
theorem own_empty (w : World) (t : TypeId) : (w.alloc (.cells #[] t)).ownsRow w.heap.size t 1 (.slice (some ⟨w.heap.size, 0, none⟩) 0 0) 0 [] :=
  ⟨rfl, .inr ⟨w.heap.size, 0, #[], rfl, Nat.le_refl _, heap_alloc_last w _, Nat.le_refl _, by unfold maxLen; omega, rfl, rfl⟩⟩
theorem step_append_moved {P : Program} {ops : Array Oper} {o : Oper} {a : Act} {w : World} {K : Act → World → Prop} {Q : Exit → Act → World → Prop} {E : Prop} (hgd : o.guard = none) (s x : Operand) (t : TypeId)
    (ho : o.op = .call { callee := .builtin .append, args := #[s, x], argTypes := #[t, t] })
    (B : Nat) (e : TypeId) (i : TypeInfo) (z : Value) (size bytes : Nat) (ht : P.underlying t = some (.slice e)) (hi : P.info? e = some i) (hz : i.zero = some z)
    (hsize : i.size = size) (hby : i.bytes = bytes) (hzs : z.cells.size = size) (hsz : 0 < size)
    (v : Value) (n : Nat) (xs : List Value) (hs : a.eval s = v) (ad : Option Addr) (m c : Nat) (hx : a.eval x = .slice ad m c) (news : List Value)
    (hown : w.ownsRow B e size v n xs) (hsrc : From w ad m c size news) (h1 : ∀ u ∈ news, u.oneCell' = true)
    (h63 : n + m ≤ maxLen) (hbytes : (n + m) * bytes ≤ 140737488355328) (hB : B ≤ w.heap.size)
    (h : ∀ v' w', w'.ownsRow B e size v' (n + m) (xs ++ news) → w.grownBy w' v.ownBlock → Moved w v v' → K (a.put o.dst v') w') :
    if Region.wanted o (yielded ops a.tmps) = true then Oper.wp P o a w K Q else E := by
  have hw : Region.wanted o (yielded ops a.tmps) = true := by simp [Region.wanted, hgd]
  rw [if_pos hw]
  obtain ⟨v', w', hr, h2, h3, h4⟩ := run_append_moved (P := P) w B t o.type e i z size bytes ht hi hz hsize hby hzs hsz v n xs hown ad m c news hsrc h1 h63 hbytes hB
  unfold Oper.wp
  simp [execOp, ho, resolve, invoke, builtin, hs, hx, hr, Result.andThen]
  exact h v' w' h2 h3 h4
theorem row8_own {w : World} {B : Nat} {ad : Option Addr} {c n : Nat} {xs : List Int} (h : w.ownsRow B 5 1 (.slice ad n c) n (ins .u8 xs)) : Row8 w ad n c xs := by
  have hl : n = xs.length := by have := h.1; simp [ins] at this; omega
  refine ⟨hl.symm, ?_⟩
  rcases h.2 with ⟨e0, e1⟩ | ⟨g, cap, cur, e0, _⟩
  · simp only [Value.slice.injEq] at e0
    exact .inl ⟨e0.1, e1, e0.2.2⟩
  · simp only [Value.slice.injEq, true_and] at e0
    obtain ⟨rfl, rfl⟩ := e0
    exact .inr ⟨_, rfl, fun j u hu => h.cells (g := g) rfl j u hu⟩
theorem conv_own {w : World} {B : Nat} {ad : Option Addr} {c n : Nat} {xs : List Int} (h : w.ownsRow B 5 1 (.slice ad n c) n (ins .u8 xs)) :
    (convert 22 9 (.slice ad n c)).run Tryd.prog w = .ok (.string (strOfNums xs)) w := Bk.conv8_here (row8_own h)
theorem form1 {w : World} {B : Nat} {t : TypeId} {lv : Value} {n : Nat} {xs : List Value} (h : w.ownsRow B t 1 lv n xs) : ∃ a c, lv = .slice a n c := by
  rcases h.2 with ⟨rfl, rfl⟩ | ⟨g, cap, cur, rfl, _⟩
  · exact ⟨none, 0, rfl⟩
  · exact ⟨_, cap, rfl⟩
theorem wr64 {p : Int} (h : 0 ≤ p) (h2 : p ≤ 4611686018427387904) : IntKind.i64.wrap p = p := by simp [IntKind.wrap, IntKind.signed, IntKind.bits]; omega
theorem quiet_of {P : Program} {f : FuncId} {args : Array Value} {X : Ending} {w : World} {k : Nat} (h : Calls P f args (w.drewN k) fun e w' => e = X ∧ w.drewN k = w') : Calls P f args (w.drewN k) fun e w'' => e = X ∧ ∃ m, w'' = w.drewN m :=
  h.mono fun _ _ ⟨h1, h2⟩ => ⟨h1, k, h2.symm⟩
theorem moved_from {w w1 : World} {v v2 : Value} (hs : w.heap.size ≤ w1.heap.size) (hm : Moved w1 v v2) : Moved w v v2 := fun g e => by
  rcases hm g e with e | e
  · exact .inl e
  · exact .inr (by omega)
/-- A list of numbers in memory. -/
def IntsL (w : World) (a : Option Addr) (l : List Int) : Prop := ∀ (k : Nat) (i : Int), l[k]? = some i → ∃ b off, a = some ⟨b, off, none⟩ ∧ w.cell? ⟨b, off + k, none⟩ = some (.int .i64 i)
theorem IntsL.new {w w' : World} {a : Option Addr} {l : List Int} (h : IntsL w a l) (hc : Chg (fun _ => False) w w') : IntsL w' a l := fun k i hk => by
  obtain ⟨b, off, e, h1⟩ := h k i hk
  exact ⟨b, off, e, cell_chg h1 hc⟩
theorem nums_append (a b : List Nat) : nums (a ++ b) = nums a ++ nums b := by simp [nums]
theorem ins_append (a b : List Int) : ins .u8 (a ++ b) = ins .u8 a ++ ins .u8 b := by simp [ins]
theorem ins_map (a : List Int) : ins .u8 a = a.map (Value.int .u8) := rfl
theorem cell00 {w : World} {a : Nat} {x : Value} {t : TypeId} (h : w.heap[a]? = some (.cells #[x] t (0, 0))) : w.cell? ⟨a, 0, none⟩ = some x := by simp [World.cell?, h]
theorem addr_add (x : Addr) (i j : Nat) : (x.add i).add j = x.add (i + j) := by
  unfold Addr.add
  by_cases hi : i = 0 <;> by_cases hj : j = 0 <;> simp [hi, hj, Nat.add_assoc]
theorem row8_cut {w : World} {ad : Option Addr} {m c : Nat} {xs : List Int} (h : Row8 w ad m c xs) (hmc : m ≤ c) (lo n c' : Nat) (hn : lo + n ≤ m) (hc' : c = 0 → c' = 0) :
    Row8 w (if c = lo then ad else ad.map (·.add lo)) n c' ((xs.drop lo).take n) := by
  have hl := h.1
  refine ⟨by simp; omega, ?_⟩
  rcases h.2 with ⟨rfl, rfl, rfl⟩ | ⟨x, rfl, hx⟩
  · refine .inl ⟨by simp, by omega, hc' rfl⟩
  · by_cases e : c = lo
    · rw [if_pos e]
      have hn0 : n = 0 := by omega
      subst hn0
      exact .inr ⟨x, rfl, fun j u hu => by simp at hu⟩
    · rw [if_neg e]
      refine .inr ⟨_, rfl, fun j u hu => ?_⟩
      rw [List.map_take, List.map_drop, List.getElem?_take] at hu
      split at hu
      · rw [List.getElem?_drop] at hu
        have := hx (lo + j) u hu
        rw [addr_add]
        exact this
      · cases hu
theorem own_cap {w : World} {B : Nat} {e : TypeId} {ad : Option Addr} {c n : Nat} {xs : List Value} (h : w.ownsRow B e 1 (.slice ad n c) n xs) : n ≤ c := by
  rcases h.2 with ⟨e0, e1⟩ | ⟨g, cap, cur, e0, _, _, hc, _⟩
  · omega
  · simp only [Value.slice.injEq, true_and] at e0
    omega
theorem nums_cut (bs : List Nat) (lo n : Nat) : ((nums bs).drop lo).take n = nums ((bs.drop lo).take n) := by simp [nums, List.map_take, List.map_drop]
end Go.Proofs.YtehfcfpbjenmjaaDoor

/- Cuts of lists of any kind; of no statement by themselves. -/
namespace Go.Proofs.YtehfcfpbjenmjaaDoor
open Go.RowKit
set_option linter.unusedVariables false

/-- Where a cut begins. -/
def cutZ (ad : Option Addr) (c lo size : Nat) : Option Addr := if c = lo then ad else ad.map (·.add (lo * size))
theorem addr_add00 (x : Addr) : x.add 0 = x := by unfold Addr.add; simp
theorem run_cutZ_lo {T E : TypeId} {size : Nat} (hu : Tryd.prog.underlying T = some (.slice (Tryd.prog.elem T))) (he : Tryd.prog.elem T = E) (hs : (sizeOf E).run Tryd.prog = fun w => .ok size w) (ad : Option Addr) (m c k : Nat) (w : World) (hk : k ≤ m) : (Instr.sliceAt T (.slice ad m c) (some (.int .i64 (k : Int))) none none).run Tryd.prog w = .ok (.slice (cutZ ad c k size) (m - k) (c - k)) w := by
  rw [run_sliceAt_slice w T _ _ _ _ hu, run_slice_l w T ad m c hu .i64 (k : Int) (by omega) (by omega), he, hs]
  unfold cutZ sliced
  simp [Result.andThen]
theorem run_cutZ_hi {T E : TypeId} {size : Nat} (hu : Tryd.prog.underlying T = some (.slice (Tryd.prog.elem T))) (he : Tryd.prog.elem T = E) (hs : (sizeOf E).run Tryd.prog = fun w => .ok size w) (ad : Option Addr) (m c k : Nat) (w : World) (hk : k ≤ c) : (Instr.sliceAt T (.slice ad m c) none (some (.int .i64 (k : Int))) none).run Tryd.prog w = .ok (.slice ad k c) w := by
  rw [run_sliceAt_slice w T _ _ _ _ hu, run_slice_h w T ad m c hu .i64 (k : Int) (by omega) (by omega), he, hs]
  unfold sliced
  simp [Result.andThen]
  cases ad <;> simp [addr_add00]
theorem owns_keepZ {w w' : World} {B size : Nat} {e : TypeId} {v : Value} {n : Nat} {xs : List Value} (h : w.ownsRow B e size v n xs) (hc : Chg (fun _ => False) w w') : w'.ownsRow B e size v n xs := by
  refine ⟨h.1, ?_⟩
  rcases h.2 with hn | ⟨g, cap, cur, rfl, hb, hgg, rest⟩
  · exact .inl hn
  · exact .inr ⟨g, cap, cur, rfl, hb, (hc.block g (lt_of_blk hgg) (fun f => f)).trans hgg, rest⟩
/-- The end of a list of one's own, as a source. -/
theorem from_end {w : World} {B size : Nat} {t : TypeId} {ad : Option Addr} {n c k : Nat} {xs : List Value} (h : w.ownsRow B t size (.slice ad n c) n xs) (hk : k ≤ n) : From w (cutZ ad c k size) (n - k) (c - k) size (xs.drop (k * size)) := by
  refine ⟨by rw [List.length_drop, h.1, Nat.sub_mul], ?_⟩
  rcases h.2 with ⟨e0, e1⟩ | ⟨g, cap, cur, e0, e1⟩
  · simp only [Value.slice.injEq] at e0
    obtain ⟨rfl, rfl, rfl⟩ := e0
    obtain rfl : k = 0 := by omega
    exact .inl ⟨by unfold cutZ; simp, rfl, rfl⟩
  · simp only [Value.slice.injEq, true_and] at e0
    obtain ⟨rfl, rfl⟩ := e0
    have hc := e1.2.2.1
    unfold cutZ
    by_cases e : c = k
    · rw [if_pos e]
      refine .inr ⟨_, rfl, fun j u hu => ?_⟩
      exfalso
      have h1 := (List.getElem?_eq_some_iff.1 hu).1
      rw [List.length_drop, h.1] at h1
      obtain rfl : k = n := by omega
      omega
    · rw [if_neg e]
      refine .inr ⟨_, rfl, fun j u hu => ?_⟩
      rw [List.getElem?_drop] at hu
      have h1 := h.cells (g := g) rfl _ _ hu
      rw [addk, Nat.zero_add] at h1
      show w.cell? (((⟨g, 0, none⟩ : Addr).add (k * size)).add j) = some u
      rw [addk, addk, Nat.zero_add]
      exact h1
theorem from_front {w : World} {B size : Nat} {t : TypeId} {ad : Option Addr} {n c k : Nat} {xs : List Value} (h : w.ownsRow B t size (.slice ad n c) n xs) (hk : k ≤ n) : From w ad k c size (xs.take (k * size)) := by
  have hl : (xs.take (k * size)).length = k * size := by
    rw [List.length_take, h.1]
    exact Nat.min_eq_left (Nat.mul_le_mul_right _ hk)
  refine ⟨hl, ?_⟩
  rcases h.2 with ⟨e0, e1⟩ | ⟨g, cap, cur, e0, e1⟩
  · simp only [Value.slice.injEq] at e0
    obtain ⟨rfl, rfl, rfl⟩ := e0
    exact .inl ⟨rfl, by omega, rfl⟩
  · simp only [Value.slice.injEq, true_and] at e0
    obtain ⟨rfl, rfl⟩ := e0
    refine .inr ⟨_, rfl, fun j u hu => ?_⟩
    have h2 := (List.getElem?_eq_some_iff.1 hu).1
    rw [List.getElem?_take_of_lt (by omega)] at hu
    exact h.cells (g := g) rfl _ _ hu
end Go.Proofs.YtehfcfpbjenmjaaDoor

/- Lists of bytes of one's own; of no statement by themselves. -/
namespace Go.Proofs.YtehfcfpbjenmjaaDoor
open Go.RowKit
set_option linter.unusedVariables false
set_option linter.unusedSimpArgs false
/-- Bytes of one's own. -/
def ByO (w : World) (B : Nat) (v : Value) (bs : List Nat) : Prop := w.ownsRow B 5 1 v bs.length (ins .u8 (nums bs))
theorem info5u : (Tryd.prog.info? 5).map (fun i => (i.zero, i.size, i.bytes)) = some (some (.int .u8 0), 1, 1) := by kernel_rfl
theorem elemBy : Tryd.prog.elem 22 = 5 := by kernel_rfl
theorem sizeBy : (sizeOf 5).run Tryd.prog = fun w => .ok 1 w := by kernel_rfl
theorem undBy : Tryd.prog.underlying 22 = some (.slice (Tryd.prog.elem 22)) := by kernel_rfl
theorem oneB (xs : List Nat) : ∀ u ∈ (nums xs).map (Value.int .u8), u.oneCell' = true := fun u hu => by
  obtain ⟨x, _, rfl⟩ := List.mem_map.1 hu
  rfl
/-- Two lists of bytes one behind the other, of one's own. -/
theorem byO_app {w : World} {B : Nat} {v : Value} {n : Nat} {a b : List Nat} (h : w.ownsRow B 5 1 v n ((nums a).map (Value.int .u8) ++ (nums b).map (Value.int .u8))) : ByO w B v (a ++ b) := by
  have hl := h.1
  unfold ByO
  rw [show ins .u8 (nums (a ++ b)) = (nums a).map (Value.int .u8) ++ (nums b).map (Value.int .u8) by simp [ins, nums]]
  have e : (a ++ b).length = n := by simp [nums] at hl ⊢; omega
  rw [e]
  exact h
theorem byO_row {w : World} {B n : Nat} {ad : Option Addr} {c : Nat} {bs : List Nat} (h : ByO w B (.slice ad n c) bs) : Row8 w ad n c (nums bs) ∧ bs.length = n ∧ n ≤ c := by
  have hf : bs.length = n := by
    rcases h.2 with ⟨e, e2⟩ | ⟨g, cap, cur, e, _⟩
    · simp only [Value.slice.injEq] at e; omega
    · simp only [Value.slice.injEq] at e; omega
  unfold ByO at h
  rw [hf] at h
  exact ⟨row8_own h, hf, own_cap h⟩
theorem byO_form {w : World} {B : Nat} {v : Value} {bs : List Nat} (h : ByO w B v bs) : ∃ ad c, v = .slice ad bs.length c := form1 h
theorem ByO.new {w w' : World} {B : Nat} {v : Value} {bs : List Nat} (h : ByO w B v bs) (hc : Chg (fun _ => False) w w') : ByO w' B v bs := ownsRow_keep h hc (fun _ _ f => f)
theorem row8_take {w : World} {ad : Option Addr} {n c i : Nat} {bs : List Nat} (h : Row8 w ad n c (nums bs)) (hi : i ≤ n) : Row8 w ad i c (nums (bs.take i)) := by
  have hl := h.1
  rw [nums_len] at hl
  refine ⟨by rw [nums_len, List.length_take]; omega, ?_⟩
  rcases h.2 with ⟨e1, e2, e3⟩ | ⟨x, e, hx⟩
  · exact .inl ⟨e1, by omega, e3⟩
  · refine .inr ⟨x, e, fun j u hu => hx j u ?_⟩
    rw [show nums (bs.take i) = (nums bs).take i by simp [nums, List.map_take]] at hu
    rw [List.map_take, List.getElem?_take] at hu
    split at hu
    · exact hu
    · cases hu
theorem wr8 {x : Int} (h0 : 0 ≤ x) (h1 : x ≤ 255) : IntKind.u8.wrap x = x := by simp [IntKind.wrap, IntKind.signed, IntKind.bits]; omega
theorem byO_nil (w : World) (B : Nat) : ByO w B (.slice none 0 0) [] := World.ownsRow_nil _ _ _ _
theorem byO_lit (w0 : World) (o : Obj) (l : List Nat) (n : Nat) (hn : l.length = n) (hm : n ≤ 1000) (vs : Array Value) (hv : vs.toList = ins .u8 (nums l)) : ByO ((w0.alloc o).alloc (.cells vs 5)) w0.heap.size (.slice (some ⟨w0.heap.size + 1, 0, none⟩) n n) l := by
  have e : (w0.alloc o).heap.size = w0.heap.size + 1 := by simp
  rw [← e]
  refine owns_base (B := (w0.alloc o).heap.size) ?_ (by omega)
  rw [hn]
  generalize w0.alloc o = w at *
  have h := World.ownsRow_lit (base := w.heap.size) (e := 5) (size := 1) w vs n (Nat.le_refl _) (by unfold maxLen; omega) (by rw [← Array.length_toList, hv, ins_len, nums_len, hn]; omega)
  rw [hv] at h
  exact h
/-- Bytes by their numbers. -/
theorem row8_at {w : World} {ad : Option Addr} {n c : Nat} {bs : List Nat} (h : Row8 w ad n c (nums bs)) (hn : 0 < n) : ∃ b off, ad = some ⟨b, off, none⟩ ∧ ∀ i, i < n → w.cell? ⟨b, off + i, none⟩ = some (.int .u8 ((bs.getD i 0 : Nat) : Int)) := by
  have hl := h.1
  rw [nums_len] at hl
  rcases h.2 with ⟨_, e, _⟩ | ⟨x, e, hx⟩
  · omega
  · have key : ∀ i, i < n → w.cell? (x.add i) = some (.int .u8 ((bs.getD i 0 : Nat) : Int)) := fun i hi => by
      refine hx i _ ?_
      have h9 : bs[i]? = some (bs.getD i 0) := by rw [List.getD_eq_getElem?_getD, List.getElem?_eq_getElem (by omega)]; rfl
      simp only [nums, List.map_map, List.getElem?_map, h9]
      rfl
    obtain ⟨b, off, sp⟩ := x
    have hs : sp = none := by
      have q := key 0 hn
      simp [Addr.add] at q
      exact World.cell?_spot q
    subst hs
    refine ⟨b, off, e, fun i hi => ?_⟩
    have q := key i hi
    rw [addk] at q
    exact q
end Go.Proofs.YtehfcfpbjenmjaaDoor

/- The two sums as plain mathematics over natural numbers: one step, bytes put in, linearity, products modulo the polynomial, bursts; of no statement by themselves. -/
namespace Go.Proofs.YtehfcfpbjenmjaaDoor.Cq
namespace Crc

/-- Xor of three, in another order. -/
theorem xor_left_comm (a b c : Nat) : a ^^^ (b ^^^ c) = b ^^^ (a ^^^ c) := by
  rw [← Nat.xor_assoc, Nat.xor_comm a b, Nat.xor_assoc]

theorem xor_cancel (a b : Nat) : a ^^^ (a ^^^ b) = b := by rw [← Nat.xor_assoc, Nat.xor_self, Nat.zero_xor]

theorem xor_cancel' (a b : Nat) : a ^^^ (b ^^^ a) = b := by rw [Nat.xor_comm b a, xor_cancel]

theorem xor_eq_zero {a b : Nat} (h : a ^^^ b = 0) : a = b := by
  have := xor_cancel a b
  rw [h, Nat.xor_zero] at this
  exact this

theorem xor_left_inj {a b c : Nat} (h : a ^^^ b = a ^^^ c) : b = c := by rw [← xor_cancel a b, h, xor_cancel]

/-- One step: the lowest bit falls out, and turns the polynomial's bits where it was 1. -/
def stp (P s : Nat) : Nat := s / 2 ^^^ (if s % 2 = 1 then P else 0)

theorem stp_bit (P s i : Nat) : (stp P s).testBit i = (s.testBit (i + 1) ^^ (s.testBit 0 && P.testBit i)) := by
  unfold stp
  rw [Nat.testBit_xor, Nat.testBit_div_two, Nat.testBit_zero]
  split <;> rename_i h <;> simp [h]

theorem stp_xor (P a b : Nat) : stp P (a ^^^ b) = stp P a ^^^ stp P b := by
  apply Nat.eq_of_testBit_eq
  intro i
  simp only [stp_bit, Nat.testBit_xor]
  generalize a.testBit (i + 1) = p
  generalize b.testBit (i + 1) = q
  generalize a.testBit 0 = r
  generalize b.testBit 0 = t
  generalize P.testBit i = u
  revert p q r t u
  decide

theorem stp_zero (P : Nat) : stp P 0 = 0 := by simp [stp]

theorem stp_even (P a : Nat) : stp P (2 * a) = a := by
  unfold stp
  rw [if_neg (by omega), Nat.xor_zero]
  omega

theorem stp_lt {P w s : Nat} (hP : P < 2 ^ w) (hs : s < 2 ^ w) : stp P s < 2 ^ w := by
  unfold stp
  apply Nat.xor_lt_two_pow
  · exact Nat.lt_of_le_of_lt (Nat.div_le_self _ _) hs
  · split
    · exact hP
    · exact Nat.two_pow_pos w

/-- Steps, n of them. -/
def itr (P : Nat) : Nat → Nat → Nat
  | 0, s => s
  | n + 1, s => itr P n (stp P s)

theorem itr_succ (P n s : Nat) : itr P (n + 1) s = stp P (itr P n s) := by
  induction n generalizing s with
  | zero => rfl
  | succ n ih => rw [itr, ih]; rfl

theorem itr_add (P m n s : Nat) : itr P (m + n) s = itr P m (itr P n s) := by
  induction n generalizing s with
  | zero => rfl
  | succ n ih => rw [← Nat.add_assoc, itr, ih]; rfl

theorem itr_comm (P m n s : Nat) : itr P m (itr P n s) = itr P n (itr P m s) := by rw [← itr_add, ← itr_add, Nat.add_comm]

theorem itr_xor (P n a b : Nat) : itr P n (a ^^^ b) = itr P n a ^^^ itr P n b := by
  induction n generalizing a b with
  | zero => rfl
  | succ n ih => rw [itr, stp_xor, ih]; rfl

theorem itr_zero (P n : Nat) : itr P n 0 = 0 := by
  induction n with
  | zero => rfl
  | succ n ih => rw [itr, stp_zero, ih]

theorem itr_lt {P w : Nat} (hP : P < 2 ^ w) (n : Nat) {s : Nat} (hs : s < 2 ^ w) : itr P n s < 2 ^ w := by
  induction n generalizing s with
  | zero => exact hs
  | succ n ih => exact ih (stp_lt hP hs)

theorem itr_shift (P n a : Nat) : itr P n (2 ^ n * a) = a := by
  induction n generalizing a with
  | zero => simp [itr]
  | succ n ih => rw [itr, show 2 ^ (n + 1) * a = 2 * (2 ^ n * a) by rw [Nat.pow_succ]; simp only [Nat.mul_comm, Nat.mul_left_comm], stp_even, ih]

theorem itr_pow (P n : Nat) : itr P n (2 ^ n) = 1 := by simpa using itr_shift P n 1

theorem split_at (s k : Nat) : s = 2 ^ k * (s / 2 ^ k) ^^^ s % 2 ^ k := by
  apply Nat.eq_of_testBit_eq
  intro i
  rw [Nat.testBit_xor, Nat.testBit_two_pow_mul, Nat.testBit_div_two_pow, Nat.testBit_mod_two_pow]
  by_cases h : i < k
  · simp [h, show ¬ k ≤ i by omega]
  · simp [h, show k ≤ i by omega]

/-- n steps: what is shifted down, and what the lowest n bits turn. -/
theorem itr_low (P n s : Nat) : itr P n s = s / 2 ^ n ^^^ itr P n (s % 2 ^ n) := by
  conv => lhs; rw [split_at s n]
  rw [itr_xor, itr_shift]

/-- A byte put in. -/
def put (P s x : Nat) : Nat := itr P 8 (s ^^^ x)

theorem put_lt {P w : Nat} (hP : P < 2 ^ w) {s x : Nat} (hs : s < 2 ^ w) (hx : x < 2 ^ w) : put P s x < 2 ^ w :=
  itr_lt hP 8 (Nat.xor_lt_two_pow hs hx)

theorem put_xor (P a b x y : Nat) : put P (a ^^^ b) (x ^^^ y) = put P a x ^^^ put P b y := by
  unfold put
  rw [← itr_xor]
  congr 1
  rw [Nat.xor_assoc, xor_left_comm b, ← Nat.xor_assoc]

theorem put_left (P a b x : Nat) : put P (a ^^^ b) x = put P a x ^^^ itr P 8 b := by
  have := put_xor P a b x 0
  rw [Nat.xor_zero] at this
  rw [this]
  simp [put]

/-- Bytes put in, one after the other. -/
def raw (P : Nat) (s : Nat) (l : List Nat) : Nat := l.foldl (put P) s

theorem raw_nil (P s : Nat) : raw P s [] = s := rfl
theorem raw_cons (P s x : Nat) (l : List Nat) : raw P s (x :: l) = raw P (put P s x) l := rfl
theorem raw_append (P s : Nat) (l m : List Nat) : raw P s (l ++ m) = raw P (raw P s l) m := by simp [raw]
theorem raw_snoc (P s x : Nat) (l : List Nat) : raw P s (l ++ [x]) = put P (raw P s l) x := by simp [raw]

theorem raw_lt {P w : Nat} (hP : P < 2 ^ w) (l : List Nat) (hl : ∀ x ∈ l, x < 2 ^ w) {s : Nat} (hs : s < 2 ^ w) : raw P s l < 2 ^ w := by
  induction l generalizing s with
  | nil => exact hs
  | cons x l ih => exact ih (fun y hy => hl y (List.mem_cons_of_mem _ hy)) (put_lt hP hs (hl x List.mem_cons_self))

theorem raw_left (P a b : Nat) (l : List Nat) : raw P (a ^^^ b) l = raw P a l ^^^ itr P (8 * l.length) b := by
  induction l generalizing a b with
  | nil => rfl
  | cons x l ih => rw [raw_cons, put_left, ih, raw_cons, ← itr_add, List.length_cons, Nat.mul_succ]

theorem raw_xor (P a b : Nat) (l m : List Nat) (h : l.length = m.length) : raw P (a ^^^ b) (List.zipWith (· ^^^ ·) l m) = raw P a l ^^^ raw P b m := by
  induction l generalizing a b m with
  | nil => cases m with
    | nil => rfl
    | cons y m => simp at h
  | cons x l ih => cases m with
    | nil => simp at h
    | cons y m => rw [List.zipWith_cons_cons, raw_cons, put_xor, ih _ _ _ (by simpa using h), raw_cons, raw_cons]

theorem put_zero (P s : Nat) : put P s 0 = itr P 8 s := by simp [put]

theorem raw_zeros (P s n : Nat) : raw P s (List.replicate n 0) = itr P (8 * n) s := by
  induction n generalizing s with
  | zero => rfl
  | succ n ih => rw [List.replicate_succ, raw_cons, ih, put_zero, ← itr_add, Nat.mul_succ]

/-- A sum of width w, carried on over bytes. -/
def more (P w s : Nat) (l : List Nat) : Nat := (2 ^ w - 1) ^^^ raw P ((2 ^ w - 1) ^^^ s) l

theorem more_nil (P w s : Nat) : more P w s [] = s := by simp [more, raw_nil, xor_cancel]

theorem more_append (P w s : Nat) (l m : List Nat) : more P w s (l ++ m) = more P w (more P w s l) m := by
  simp only [more, raw_append, xor_cancel]

theorem ones_lt (w : Nat) : 2 ^ w - 1 < 2 ^ w := by have := Nat.two_pow_pos w; omega

theorem more_lt {P w : Nat} (hP : P < 2 ^ w) (l : List Nat) (hl : ∀ x ∈ l, x < 2 ^ w) {s : Nat} (hs : s < 2 ^ w) : more P w s l < 2 ^ w :=
  Nat.xor_lt_two_pow (ones_lt w) (raw_lt hP l hl (Nat.xor_lt_two_pow (ones_lt w) hs))

/-- Carried on from a number: the sum of the bytes, and what as many zeros make of the number. -/
theorem more_join (P w s : Nat) (l : List Nat) : more P w s l = itr P (8 * l.length) s ^^^ more P w 0 l := by
  simp only [more, Nat.xor_zero, raw_left]
  rw [← Nat.xor_assoc, Nat.xor_comm]

/-- Sums are linear but for one number. -/
theorem more_linear (P w : Nat) (x y z : List Nat) (h1 : x.length = y.length) (h2 : y.length = z.length) :
    more P w 0 (List.zipWith (· ^^^ ·) (List.zipWith (· ^^^ ·) x y) z) = more P w 0 x ^^^ more P w 0 y ^^^ more P w 0 z := by
  have e : (2 ^ w - 1) = (2 ^ w - 1) ^^^ (2 ^ w - 1) ^^^ (2 ^ w - 1) := by rw [Nat.xor_self, Nat.zero_xor]
  have k : raw P (2 ^ w - 1) (List.zipWith (· ^^^ ·) (List.zipWith (· ^^^ ·) x y) z) = raw P (2 ^ w - 1) x ^^^ raw P (2 ^ w - 1) y ^^^ raw P (2 ^ w - 1) z := by
    conv => lhs; rw [e]
    rw [raw_xor _ _ _ _ _ (by simp [h1, h2]), raw_xor _ _ _ _ _ h1]
  simp only [more, Nat.xor_zero, k]
  generalize 2 ^ w - 1 = o
  generalize raw P o x = a
  generalize raw P o y = b
  generalize raw P o z = c
  simp only [Nat.xor_comm, xor_left_comm, xor_cancel]

/-- Bytes with one put in the other's place: what is turned, carried on over zeros. -/
theorem more_patch (P w : Nat) (a x y b : List Nat) (h : x.length = y.length) :
    more P w 0 (a ++ y ++ b) = more P w 0 (a ++ x ++ b) ^^^ itr P (8 * b.length) (raw P 0 (List.zipWith (· ^^^ ·) x y)) := by
  have e := raw_xor P (raw P (2 ^ w - 1) a) (raw P (2 ^ w - 1) a) x y h
  rw [Nat.xor_self] at e
  rw [e, itr_xor]
  simp only [more, Nat.xor_zero, raw_append]
  have k : ∀ s t, raw P s b ^^^ itr P (8 * b.length) (s ^^^ t) = raw P t b := fun s t => by
    rw [← raw_left, xor_cancel]
  rw [← k (raw P (raw P (2 ^ w - 1) a) x) (raw P (raw P (2 ^ w - 1) a) y), itr_xor]
  simp only [Nat.xor_assoc]

theorem zip_comm (x y : List Nat) : List.zipWith (· ^^^ ·) x y = List.zipWith (· ^^^ ·) y x := by
  induction x generalizing y with
  | nil => cases y <;> rfl
  | cons a x ih => cases y with
    | nil => rfl
    | cons b y => simp [ih, Nat.xor_comm]

/-- The polynomial's highest bit is 1: no number but 0 falls to 0. -/
theorem stp_inj0 {P w s : Nat} (hP : 2 ^ w ≤ P) (hs : s < 2 ^ (w + 1)) (h : stp P s = 0) : s = 0 := by
  unfold stp at h
  have := xor_eq_zero h
  have e : 2 ^ (w + 1) = 2 * 2 ^ w := by rw [Nat.pow_succ, Nat.mul_comm]
  split at this <;> omega

theorem itr_inj0 {P w : Nat} (hP : 2 ^ w ≤ P) (hQ : P < 2 ^ (w + 1)) (n : Nat) {s : Nat} (hs : s < 2 ^ (w + 1)) (h : itr P n s = 0) : s = 0 := by
  induction n generalizing s with
  | zero => exact h
  | succ n ih => exact stp_inj0 hP hs (ih (stp_lt hQ hs) h)

/-- The bit k of a list of bytes turned over. -/
def flip (l : List Nat) (k : Nat) : List Nat := l.set (k / 8) (l.getD (k / 8) 0 ^^^ 2 ^ (k % 8))

theorem flip_length (l : List Nat) (k : Nat) : (flip l k).length = l.length := by simp [flip]

theorem flip_cons_lt (x : Nat) (l : List Nat) (k : Nat) (h : k < 8) : flip (x :: l) k = (x ^^^ 2 ^ k) :: l := by
  have h1 : k / 8 = 0 := by omega
  have h2 : k % 8 = k := by omega
  simp [flip, h1, h2]

theorem flip_cons_ge (x : Nat) (l : List Nat) (k : Nat) : flip (x :: l) (k + 8) = x :: flip l k := by
  have h1 : (k + 8) / 8 = k / 8 + 1 := by omega
  have h2 : (k + 8) % 8 = k % 8 := by omega
  simp [flip, h1, h2]

/-- One bit turned: what it makes of the sum. -/
theorem raw_flip (P s : Nat) (l : List Nat) (k : Nat) (h : k < 8 * l.length) : raw P s (flip l k) = raw P s l ^^^ itr P (8 * l.length - k) 1 := by
  induction l generalizing s k with
  | nil => simp at h
  | cons x l ih =>
    by_cases hk : k < 8
    · have e : put P s (x ^^^ 2 ^ k) = put P s x ^^^ itr P 8 (2 ^ k) := by
        have := put_xor P s 0 x (2 ^ k)
        rw [Nat.xor_zero] at this
        rw [this]
        simp [put]
      rw [flip_cons_lt x l k hk, raw_cons, e, raw_left, raw_cons, ← itr_add]
      congr 1
      rw [show 8 * l.length + 8 = (8 * (x :: l).length - k) + k by simp only [List.length_cons] at h ⊢; omega, itr_add, itr_pow]
    · obtain ⟨j, rfl⟩ : ∃ j, k = j + 8 := ⟨k - 8, by omega⟩
      rw [flip_cons_ge, raw_cons, raw_cons, ih _ _ (by simp only [List.length_cons] at h; omega)]
      congr 2
      simp only [List.length_cons]
      omega

/-- One bit turned, told from an earlier place on. -/
theorem raw_flip_from (P s : Nat) (l : List Nat) (a i : Nat) (h : a + i < 8 * l.length) : raw P s (flip l (a + i)) = raw P s l ^^^ itr P (8 * l.length - a) (2 ^ i) := by
  rw [raw_flip P s l (a + i) h]
  congr 1
  rw [show 8 * l.length - a = (8 * l.length - (a + i)) + i by omega, itr_add, itr_pow]

/-- The n lowest bytes of a number. -/
def low (v : Nat) : Nat → List Nat
  | 0 => []
  | n + 1 => v % 256 :: low (v / 256) n

theorem raw_low (P s v n : Nat) : raw P s (low v n) = itr P (8 * n) (s ^^^ v % 256 ^ n) := by
  induction n generalizing s v with
  | zero => simp [low, raw_nil, itr, Nat.mod_one]
  | succ n ih =>
    rw [low, raw_cons, ih, Nat.mul_succ, itr_add]
    congr 1
    have e : v % 256 ^ (n + 1) = 2 ^ 8 * (v / 256 % 256 ^ n) ^^^ v % 256 := by
      have h1 := split_at (v % 256 ^ (n + 1)) 8
      have h2 : v % 256 ^ (n + 1) / 2 ^ 8 = v / 256 % 256 ^ n := by
        rw [Nat.pow_succ, Nat.mul_comm, Nat.mod_mul_right_div_self]
      have h3 : v % 256 ^ (n + 1) % 2 ^ 8 = v % 256 := by
        rw [Nat.pow_succ]
        exact Nat.mod_mul_left_mod _ _ _
      rw [h2, h3] at h1
      exact h1
    rw [e, xor_left_comm, itr_xor, itr_shift, put, Nat.xor_comm]

/-- Bytes with their own sum behind them. -/
theorem more_own (P n : Nat) (l : List Nat) (h : more P (8 * n) 0 l < 2 ^ (8 * n)) : more P (8 * n) 0 (l ++ low (more P (8 * n) 0 l) n) = more P (8 * n) 0 (List.replicate n 0) := by
  rw [more_append]
  generalize hs : more P (8 * n) 0 l = s at *
  unfold more
  rw [raw_low, raw_zeros, Nat.mod_eq_of_lt (by rw [show 256 ^ n = 2 ^ (8 * n) by rw [Nat.pow_mul]]; exact h), Nat.xor_assoc, Nat.xor_self]

/-! Products modulo the polynomial. -/

/-- The product's first k terms: from the highest bit (worth 1) on. -/
def tms (P w a b : Nat) : Nat → Nat
  | 0 => 0
  | k + 1 => tms P w a b k ^^^ (if a.testBit (w - 1 - k) then itr P k b else 0)

theorem tms_right (P w a b c k : Nat) : tms P w a (b ^^^ c) k = tms P w a b k ^^^ tms P w a c k := by
  induction k with
  | zero => exact (Nat.xor_self 0).symm
  | succ k ih =>
    rw [tms, ih, tms, tms]
    split
    · rw [itr_xor]; simp only [Nat.xor_assoc, Nat.xor_comm, xor_left_comm]
    · simp only [Nat.xor_zero]

theorem tms_left (P w a b c k : Nat) : tms P w (a ^^^ b) c k = tms P w a c k ^^^ tms P w b c k := by
  induction k with
  | zero => exact (Nat.xor_self 0).symm
  | succ k ih =>
    rw [tms, ih, tms, tms, Nat.testBit_xor]
    generalize tms P w a c k = p
    generalize tms P w b c k = q
    generalize itr P k c = r
    cases a.testBit (w - 1 - k) <;> cases b.testBit (w - 1 - k) 
    · simp
    · simp [Nat.xor_assoc]
    · simp [Nat.xor_comm, xor_left_comm]
    · simp [xor_left_comm, Nat.xor_comm]

theorem tms_zero (P w b k : Nat) : tms P w 0 b k = 0 := by
  induction k with
  | zero => rfl
  | succ k ih => rw [tms, ih]; simp

theorem tms_stp (P w a b k : Nat) : tms P w a (stp P b) k = stp P (tms P w a b k) := by
  induction k with
  | zero => exact (stp_zero P).symm
  | succ k ih =>
    rw [tms, ih, tms, stp_xor]
    congr 1
    split
    · rw [← itr_succ]; rfl
    · exact (stp_zero P).symm

theorem tms_itr (P w a b k n : Nat) : tms P w a (itr P n b) k = itr P n (tms P w a b k) := by
  induction n with
  | zero => rfl
  | succ n ih => rw [itr_succ, tms_stp, ih, itr_succ]

/-- The product. -/
def tim (P w a b : Nat) : Nat := tms P w a b w

/-- A single bit's terms. -/
theorem tms_one (P w j b k : Nat) (hj : j < w) (hk : k ≤ w) : tms P w (2 ^ (w - 1 - j)) b k = if j < k then itr P j b else 0 := by
  induction k with
  | zero => rfl
  | succ k ih =>
    rw [tms, ih (by omega), Nat.testBit_two_pow]
    by_cases h1 : j < k
    · simp [h1, show j < k + 1 by omega, show ¬ w - 1 - j = w - 1 - k by omega]
    · by_cases h2 : j = k
      · subst h2; simp
      · simp [h1, show ¬ j < k + 1 by omega, show ¬ w - 1 - j = w - 1 - k by omega]

theorem tim_one (P w j b : Nat) (hj : j < w) : tim P w (2 ^ (w - 1 - j)) b = itr P j b := by
  rw [tim, tms_one P w j b w hj (Nat.le_refl _), if_pos hj]

/-- What is true of 0, of single bits and of xors is true of all numbers of w bits. -/
theorem bits_ind (w : Nat) (p : Nat → Prop) (h0 : p 0) (h1 : ∀ i, i < w → p (2 ^ i)) (hx : ∀ a b, p a → p b → p (a ^^^ b)) : ∀ a, a < 2 ^ w → p a := by
  induction w with
  | zero => intro a ha; obtain rfl : a = 0 := by simpa using ha
            exact h0
  | succ w ih =>
    intro a ha
    have hl := ih (fun i hi => h1 i (by omega))
    rw [split_at a w]
    refine hx _ _ ?_ (hl _ (Nat.mod_lt _ (Nat.two_pow_pos w)))
    have : a / 2 ^ w < 2 := by
      rw [Nat.pow_succ, Nat.mul_comm] at ha
      exact (Nat.div_lt_iff_lt_mul (Nat.two_pow_pos w)).2 ha
    generalize a / 2 ^ w = q at *
    rcases (show q = 0 ∨ q = 1 by omega) with e | e <;> rw [e]
    · simpa using h0
    · simpa using h1 w (by omega)

/-- A single bit is steps of the highest. -/
theorem pow_itr (P w i : Nat) (hi : i < w) : 2 ^ i = itr P (w - 1 - i) (2 ^ (w - 1)) := by
  have : 2 ^ (w - 1) = 2 ^ (w - 1 - i) * 2 ^ i := by rw [← Nat.pow_add]; congr 1; omega
  rw [this, itr_shift]

/-- The polynomial times a number: w steps. -/
theorem tim_poly (P w b : Nat) (hP : tim P w P (2 ^ (w - 1)) = P) (h1 : itr P w (2 ^ (w - 1)) = P) (hb : b < 2 ^ w) : tim P w P b = itr P w b := by
  revert b
  refine bits_ind w _ ?_ ?_ ?_
  · rw [itr_zero]
    have h := tms_right P w P 0 0 w
    rw [Nat.xor_self, Nat.xor_self] at h
    exact h
  · intro i hi
    rw [pow_itr P w i hi, tim, tms_itr, itr_comm, ← tim, hP, h1]
  · intro a b ha hb
    rw [itr_xor, tim, tms_right, ← tim, ← tim, ha, hb]

theorem tim_left_stp (P w a b : Nat) (hw : 0 < w) (hP : tim P w P (2 ^ (w - 1)) = P) (h1 : itr P w (2 ^ (w - 1)) = P) (ha : a < 2 ^ w) (hb : b < 2 ^ w) : tim P w (stp P a) b = stp P (tim P w a b) := by
  revert a
  refine bits_ind w _ ?_ ?_ ?_
  · rw [stp_zero, tim, tms_zero, stp_zero]
  · intro i hi
    rcases i with _ | i
    · have e : stp P (2 ^ 0) = P := by simp [stp]
      rw [e, tim_poly P w b hP h1 hb]
      have := tim_one P w (w - 1) b (by omega)
      rw [show w - 1 - (w - 1) = 0 by omega] at this
      rw [this, ← itr_succ]
      congr 1
      omega
    · have e : stp P (2 ^ (i + 1)) = 2 ^ i := by rw [Nat.pow_succ, Nat.mul_comm, stp_even]
      rw [e]
      have k1 := tim_one P w (w - 1 - i) b (by omega)
      have k2 := tim_one P w (w - 1 - (i + 1)) b (by omega)
      rw [show w - 1 - (w - 1 - i) = i by omega] at k1
      rw [show w - 1 - (w - 1 - (i + 1)) = i + 1 by omega] at k2
      rw [k1, k2, ← itr_succ]
      congr 1
      omega
  · intro a c ha hc
    rw [stp_xor, tim, tms_left, ← tim, ← tim, ha, hc, ← stp_xor, tim, tim, ← tms_left, ← tim]

theorem tim_left_itr (P w a b n : Nat) (hw : 0 < w) (hP : tim P w P (2 ^ (w - 1)) = P) (h1 : itr P w (2 ^ (w - 1)) = P) (hp : P < 2 ^ w) (ha : a < 2 ^ w) (hb : b < 2 ^ w) : tim P w (itr P n a) b = itr P n (tim P w a b) := by
  induction n with
  | zero => rfl
  | succ n ih => rw [itr_succ, tim_left_stp P w _ b hw hP h1 (itr_lt hp n ha) hb, ih, itr_succ]

/-- A number that, as a factor, does m steps. -/
def Acts (P w m a : Nat) : Prop := a < 2 ^ w ∧ ∀ b, b < 2 ^ w → tim P w a b = itr P m b

theorem Acts.mul {P w m n a b : Nat} (hw : 0 < w) (hP : tim P w P (2 ^ (w - 1)) = P) (h1 : itr P w (2 ^ (w - 1)) = P) (hp : P < 2 ^ w) (ha : Acts P w m a) (hb : Acts P w n b) : Acts P w (m + n) (tim P w a b) := by
  have e := ha.2 b hb.1
  refine ⟨by rw [e]; exact itr_lt hp m hb.1, fun c hc => ?_⟩
  rw [e, tim_left_itr P w b c m hw hP h1 hp hb.1 hc, hb.2 c hc, itr_add]

theorem Acts.one (P w j : Nat) (hj : j < w) : Acts P w j (2 ^ (w - 1 - j)) :=
  ⟨Nat.pow_lt_pow_right (by omega) (by omega), fun b _ => tim_one P w j b hj⟩

/-! The two polynomials. -/

def P32 : Nat := 0xEDB88320
def P64 : Nat := 0xC96C5795D7870F42

theorem p32_lt : P32 < 2 ^ 32 := by decide
theorem p64_lt : P64 < 2 ^ 64 := by decide
theorem p32_one : tim P32 32 P32 (2 ^ 31) = P32 := by decide +kernel
theorem p64_one : tim P64 64 P64 (2 ^ 63) = P64 := by decide +kernel
theorem p32_itr : itr P32 32 (2 ^ 31) = P32 := by decide +kernel
theorem p64_itr : itr P64 64 (2 ^ 63) = P64 := by decide +kernel

/-! What many zeros make, bit by bit. -/

theorem mod_bit (s k : Nat) : s % 2 ^ (k + 1) = s % 2 ^ k ^^^ (if s / 2 ^ k % 2 = 1 then 2 ^ k else 0) := by
  have hb : s.testBit k = decide (s / 2 ^ k % 2 = 1) := Nat.testBit_eq_decide_div_mod_eq
  apply Nat.eq_of_testBit_eq
  intro i
  rw [Nat.testBit_xor, Nat.testBit_mod_two_pow, Nat.testBit_mod_two_pow]
  by_cases h1 : i < k
  · split <;> simp [h1, show i < k + 1 by omega, show ¬ k = i by omega]
  · by_cases h2 : i = k
    · subst h2
      split <;> simp_all
    · split <;> simp [h1, show ¬ i < k + 1 by omega, show ¬ k = i by omega]

theorem itr_bit_one (P z s k : Nat) (h : s / 2 ^ k % 2 = 1) : itr P z (s % 2 ^ k) ^^^ itr P z (2 ^ k) = itr P z (s % 2 ^ (k + 1)) := by
  rw [mod_bit, if_pos h, itr_xor]

theorem itr_bit_zero (P z s k : Nat) (h : ¬ s / 2 ^ k % 2 = 1) : itr P z (s % 2 ^ k) = itr P z (s % 2 ^ (k + 1)) := by
  rw [mod_bit, if_neg h, Nat.xor_zero]

end Crc
end Go.Proofs.YtehfcfpbjenmjaaDoor.Cq
