/- The range encoder over the natural numbers: its low end, its range, its shifts; that what follows a bit lies in the bit's part; digits to the base 256 and their order; of no statement by itself. -/
namespace Go.Proofs.YtikokgngkagieaaDoor.Rc

/-- Low end, range, shifts. -/
structure E where
  L : Nat
  R : Nat
  k : Nat

structure Ok (e : E) : Prop where
  lo : 16777216 ≤ e.R
  hi : e.R ≤ 4294967295
  sum : e.L + e.R ≤ 4294967296 * 256 ^ e.k

def start : E := ⟨0, 4294967295, 0⟩
theorem start_ok : Ok start := ⟨by decide, by decide, by decide⟩

/-- Once, where it must be. -/
def widen (e : E) : E := if e.R < 16777216 then ⟨256 * e.L, 256 * e.R, e.k + 1⟩ else e
def part (e : E) (b : Nat) (one : Bool) : E := if one then ⟨e.L + b, e.R - b, e.k⟩ else ⟨e.L, b, e.k⟩
def cut (e : E) (b : Nat) (one : Bool) : E := widen (part e b one)
/-- A bit without a probability. -/
def hpart (e : E) (one : Bool) : E := if one then ⟨e.L + e.R / 2, e.R / 2, e.k⟩ else ⟨e.L, e.R / 2, e.k⟩
def half (e : E) (one : Bool) : E := widen (hpart e one)

/-- f lies in e. -/
structure Within (e f : E) : Prop where
  k : e.k ≤ f.k
  low : e.L * 256 ^ (f.k - e.k) ≤ f.L
  high : f.L + f.R ≤ (e.L + e.R) * 256 ^ (f.k - e.k)

theorem Within.refl (e : E) : Within e e := ⟨Nat.le_refl _, by simp, by simp⟩
theorem Within.trans {e f g : E} (h : Within e f) (i : Within f g) : Within e g := by
  have hk := h.k
  have ik := i.k
  have hp : 256 ^ (g.k - e.k) = 256 ^ (f.k - e.k) * 256 ^ (g.k - f.k) := by rw [← Nat.pow_add]; congr 1; omega
  refine ⟨by omega, ?_, ?_⟩
  · rw [hp, ← Nat.mul_assoc]
    exact Nat.le_trans (Nat.mul_le_mul_right _ h.low) i.low
  · rw [hp, ← Nat.mul_assoc]
    exact Nat.le_trans i.high (Nat.mul_le_mul_right _ h.high)

theorem widen_within (e : E) : Within e (widen e) := by
  unfold widen
  split
  · refine ⟨by simp, ?_, ?_⟩
    · show e.L * 256 ^ (e.k + 1 - e.k) ≤ 256 * e.L
      rw [Nat.add_sub_cancel_left, Nat.pow_one]
      omega
    · show 256 * e.L + 256 * e.R ≤ (e.L + e.R) * 256 ^ (e.k + 1 - e.k)
      rw [Nat.add_sub_cancel_left, Nat.pow_one]
      omega
  · exact Within.refl e

theorem part_within {e : E} {b : Nat} (hb : b ≤ e.R) (one : Bool) : Within e (part e b one) := by
  cases one
  · exact ⟨Nat.le_refl _, by simp [part], by simp [part]; omega⟩
  · exact ⟨Nat.le_refl _, by simp [part], by simp [part]; omega⟩
theorem hpart_within (e : E) (one : Bool) : Within e (hpart e one) := by
  cases one
  · exact ⟨Nat.le_refl _, by simp [hpart], by simp [hpart]; omega⟩
  · exact ⟨Nat.le_refl _, by simp [hpart], by simp [hpart]; omega⟩
theorem cut_within {e : E} {b : Nat} (hb : b ≤ e.R) (one : Bool) : Within e (cut e b one) := (part_within hb one).trans (widen_within _)
theorem half_within (e : E) (one : Bool) : Within e (half e one) := (hpart_within e one).trans (widen_within _)

theorem widen_ok {e : E} (lo : 65536 ≤ e.R) (hi : e.R ≤ 4294967295) (sum : e.L + e.R ≤ 4294967296 * 256 ^ e.k) : Ok (widen e) := by
  unfold widen
  split
  · refine ⟨?_, ?_, ?_⟩
    · show 16777216 ≤ 256 * e.R
      omega
    · show 256 * e.R ≤ 4294967295
      omega
    · show 256 * e.L + 256 * e.R ≤ 4294967296 * 256 ^ (e.k + 1)
      rw [Nat.pow_succ, ← Nat.mul_assoc]
      omega
  · exact ⟨by omega, hi, sum⟩
theorem cut_ok {e : E} (h : Ok e) {b : Nat} (h1 : 65536 ≤ b) (h2 : b + 65536 ≤ e.R) (one : Bool) : Ok (cut e b one) := by
  have := h.hi
  have hs := h.sum
  cases one
  · exact widen_ok (e := ⟨e.L, b, e.k⟩) h1 (by show b ≤ _; omega) (by show e.L + b ≤ 4294967296 * 256 ^ e.k; omega)
  · exact widen_ok (e := ⟨e.L + b, e.R - b, e.k⟩) (by show _ ≤ e.R - b; omega) (by show e.R - b ≤ _; omega) (by show e.L + b + (e.R - b) ≤ 4294967296 * 256 ^ e.k; omega)
theorem half_ok {e : E} (h : Ok e) (one : Bool) : Ok (half e one) := by
  have := h.lo
  have := h.hi
  have hs := h.sum
  cases one
  · exact widen_ok (e := ⟨e.L, e.R / 2, e.k⟩) (by show _ ≤ e.R / 2; omega) (by show e.R / 2 ≤ _; omega) (by show e.L + e.R / 2 ≤ 4294967296 * 256 ^ e.k; omega)
  · exact widen_ok (e := ⟨e.L + e.R / 2, e.R / 2, e.k⟩) (by show _ ≤ e.R / 2; omega) (by show e.R / 2 ≤ _; omega) (by show e.L + e.R / 2 + e.R / 2 ≤ 4294967296 * 256 ^ e.k; omega)

/-- The place at which a range is cut leaves both parts enough. -/
theorem bound_in {R p : Nat} (hR : 16777216 ≤ R) (h1 : 31 ≤ p) (h2 : p ≤ 2017) : 65536 ≤ R / 2048 * p ∧ R / 2048 * p + 65536 ≤ R := by
  have a1 : R / 2048 * 31 ≤ R / 2048 * p := Nat.mul_le_mul_left _ h1
  have a2 : R / 2048 * p ≤ R / 2048 * 2017 := Nat.mul_le_mul_left _ h2
  omega

/-- What follows a 0 is below what follows a 1. -/
theorem order {L m : Nat} {z f o g : E} (hz : Within z f) (ho : Within o g) (hzk : z.k = m) (hok : o.k = m) (hzL : z.L + z.R = L) (hoL : L ≤ o.L) (hf : 0 < f.R) : f.L * 256 ^ g.k < g.L * 256 ^ f.k := by
  have h1 : f.L < L * 256 ^ (f.k - m) := by
    have := hz.high
    rw [hzL, hzk] at this
    omega
  have h2 : L * 256 ^ (g.k - m) ≤ g.L := by
    have := ho.low
    rw [hok] at this
    exact Nat.le_trans (Nat.mul_le_mul_right _ hoL) this
  have k1 := hz.k
  have k2 := ho.k
  rw [hzk] at k1
  rw [hok] at k2
  have e1 : L * 256 ^ (f.k - m) * 256 ^ g.k = L * 256 ^ (g.k - m) * 256 ^ f.k := by
    rw [Nat.mul_assoc, Nat.mul_assoc, ← Nat.pow_add, ← Nat.pow_add, show f.k - m + g.k = g.k - m + f.k by omega]
  calc f.L * 256 ^ g.k < L * 256 ^ (f.k - m) * 256 ^ g.k := Nat.mul_lt_mul_of_pos_right h1 (Nat.pow_pos (by omega))
    _ = L * 256 ^ (g.k - m) * 256 ^ f.k := e1
    _ ≤ g.L * 256 ^ f.k := Nat.mul_le_mul_right _ h2
/-- What follows is not below. -/
theorem after {e f : E} (h : Within e f) : e.L * 256 ^ f.k ≤ f.L * 256 ^ e.k := by
  have h1 := h.low
  have hk := h.k
  have e1 : e.L * 256 ^ f.k = e.L * 256 ^ (f.k - e.k) * 256 ^ e.k := by
    rw [Nat.mul_assoc, ← Nat.pow_add, show f.k - e.k + e.k = f.k by omega]
  rw [e1]
  exact Nat.mul_le_mul_right _ h1

/-- The n lowest digits to the base 256, the highest first. -/
def dg : Nat → Nat → List Nat
  | 0, _ => []
  | n + 1, L => dg n (L / 256) ++ [L % 256]
def val : List Nat → Nat
  | [] => 0
  | x :: xs => x * 256 ^ xs.length + val xs
def Dig (l : List Nat) : Prop := ∀ x ∈ l, x < 256
theorem dg_len : ∀ n L, (dg n L).length = n
  | 0, _ => rfl
  | n + 1, L => by simp [dg, dg_len n]
theorem dg_dig : ∀ n L, Dig (dg n L)
  | 0, _, x, h => by cases h
  | n + 1, L, x, h => by
    simp only [dg, List.mem_append, List.mem_singleton] at h
    rcases h with h | h
    · exact dg_dig n _ x h
    · omega
theorem val_append (a b : List Nat) : val (a ++ b) = val a * 256 ^ b.length + val b := by
  induction a with
  | nil => simp [val]
  | cons x xs ih => simp only [List.cons_append, val, List.length_append, ih, Nat.pow_add, Nat.add_mul, Nat.mul_assoc, Nat.add_assoc]
theorem val_dg : ∀ n L, L < 256 ^ n → val (dg n L) = L
  | 0, L, h => by simp at h; subst h; rfl
  | n + 1, L, h => by
    have h1 : L / 256 < 256 ^ n := by
      rw [Nat.div_lt_iff_lt_mul (by omega), ← Nat.pow_succ]
      exact h
    rw [dg, val_append, val_dg n _ h1]
    simp [val]
    omega
theorem val_lt : ∀ {l : List Nat}, Dig l → val l < 256 ^ l.length
  | [], _ => by simp [val]
  | x :: xs, h => by
    have h1 := val_lt (l := xs) (fun y hy => h y (by simp [hy]))
    have h2 : x < 256 := h x (by simp)
    simp only [val, List.length_cons, Nat.pow_succ]
    have h3 : x * 256 ^ xs.length ≤ 255 * 256 ^ xs.length := Nat.mul_le_mul_right _ (by omega)
    omega
theorem val_inj : ∀ {a b : List Nat}, Dig a → Dig b → a.length = b.length → val a = val b → a = b
  | [], [], _, _, _, _ => rfl
  | [], _ :: _, _, _, h, _ => by simp at h
  | _ :: _, [], _, _, h, _ => by simp at h
  | x :: xs, y :: ys, ha, hb, hl, h => by
    have v1 := val_lt (l := xs) (fun z hz => ha z (by simp [hz]))
    have v2 := val_lt (l := ys) (fun z hz => hb z (by simp [hz]))
    have hl2 : xs.length = ys.length := by simpa using hl
    simp only [val] at h
    rw [hl2] at h v1
    have hxy : x = y := by
      rcases Nat.lt_trichotomy x y with c | c | c
      · have := Nat.mul_le_mul_right (256 ^ ys.length) c
        rw [Nat.succ_mul] at this
        omega
      · exact c
      · have := Nat.mul_le_mul_right (256 ^ ys.length) c
        rw [Nat.succ_mul] at this
        omega
    subst hxy
    rw [val_inj (fun z hz => ha z (by simp [hz])) (fun z hz => hb z (by simp [hz])) hl2 (by omega)]
theorem dg_val {l : List Nat} (h : Dig l) : dg l.length (val l) = l :=
  val_inj (dg_dig _ _) h (dg_len _ _) (val_dg _ _ (val_lt h))
/-- One digit of a sum, from behind. -/
theorem sum_step (c d x t V n : Nat) (h : c * 256 ^ n + t = x + V) : (c + d) / 256 * 256 ^ (n + 1) + ((c + d) % 256 * 256 ^ n + t) = x + (d * 256 ^ n + V) := by
  have e : (c + d) / 256 * 256 ^ (n + 1) + (c + d) % 256 * 256 ^ n = (c + d) * 256 ^ n := by
    rw [Nat.pow_succ, Nat.mul_comm (256 ^ n) 256, ← Nat.mul_assoc, ← Nat.add_mul]
    congr 1
    omega
  rw [← Nat.add_assoc, e, Nat.add_mul]
  omega
/-- A byte behind: 256 times as much. -/
theorem dg_shift (n L : Nat) : dg (n + 1) (256 * L) = dg n L ++ [0] := by simp [dg]

/-- Byte by byte; the shorter is below. -/
def ltL : List Nat → List Nat → Prop
  | _, [] => False
  | [], _ :: _ => True
  | a :: as, b :: bs => a < b ∨ (a = b ∧ ltL as bs)

theorem lex_lt : ∀ {a b : List Nat}, Dig a → Dig b → val a * 256 ^ b.length < val b * 256 ^ a.length → ltL a b
  | _, [], _, _, h => by simp [val] at h
  | [], _ :: _, _, _, _ => trivial
  | x :: xs, y :: ys, ha, hb, h => by
    have v1 := val_lt (l := xs) (fun z hz => ha z (by simp [hz]))
    have v2 := val_lt (l := ys) (fun z hz => hb z (by simp [hz]))
    by_cases hxy : x < y
    · exact .inl hxy
    · by_cases hyx : y < x
      · exfalso
        simp only [val, List.length_cons] at h
        have p1 : (y + 1) * 256 ^ xs.length ≤ x * 256 ^ xs.length + val xs := Nat.le_trans (Nat.mul_le_mul_right _ hyx) (Nat.le_add_right _ _)
        have p2 : y * 256 ^ ys.length + val ys ≤ (y + 1) * 256 ^ ys.length := by rw [Nat.add_mul, Nat.one_mul]; omega
        have q1 := Nat.mul_le_mul_right (256 ^ (ys.length + 1)) p1
        have q2 := Nat.mul_le_mul_right (256 ^ (xs.length + 1)) p2
        have e : (y + 1) * 256 ^ ys.length * 256 ^ (xs.length + 1) = (y + 1) * 256 ^ xs.length * 256 ^ (ys.length + 1) := by
          rw [Nat.mul_assoc, Nat.mul_assoc, ← Nat.pow_add, ← Nat.pow_add, show ys.length + (xs.length + 1) = xs.length + (ys.length + 1) by omega]
        omega
      · have e : x = y := by omega
        subst e
        refine .inr ⟨rfl, lex_lt (fun z hz => ha z (by simp [hz])) (fun z hz => hb z (by simp [hz])) ?_⟩
        simp only [val, List.length_cons, Nat.add_mul] at h
        have e : x * 256 ^ ys.length * 256 ^ (xs.length + 1) = x * 256 ^ xs.length * 256 ^ (ys.length + 1) := by
          rw [Nat.mul_assoc, Nat.mul_assoc, ← Nat.pow_add, ← Nat.pow_add, show ys.length + (xs.length + 1) = xs.length + (ys.length + 1) by omega]
        have h2 : val xs * 256 ^ (ys.length + 1) < val ys * 256 ^ (xs.length + 1) := by omega
        rw [Nat.pow_succ, Nat.pow_succ, ← Nat.mul_assoc, ← Nat.mul_assoc] at h2
        omega
theorem lex_le : ∀ {a b : List Nat}, Dig a → Dig b → a.length ≤ b.length → val a * 256 ^ b.length ≤ val b * 256 ^ a.length → a = b ∨ ltL a b
  | [], [], _, _, _, _ => .inl rfl
  | _ :: _, [], _, _, h, _ => by simp at h
  | [], _ :: _, _, _, _, _ => .inr trivial
  | x :: xs, y :: ys, ha, hb, hl, h => by
    by_cases hlt : val (x :: xs) * 256 ^ (y :: ys).length < val (y :: ys) * 256 ^ (x :: xs).length
    · exact .inr (lex_lt ha hb hlt)
    · have v1 := val_lt (l := xs) (fun z hz => ha z (by simp [hz]))
      have v2 := val_lt (l := ys) (fun z hz => hb z (by simp [hz]))
      have heq : val (x :: xs) * 256 ^ (y :: ys).length = val (y :: ys) * 256 ^ (x :: xs).length := by omega
      simp only [val, List.length_cons] at heq
      have hxy : ¬ x < y := fun hxy => by
        have p1 : x * 256 ^ xs.length + val xs + 1 ≤ (x + 1) * 256 ^ xs.length := by rw [Nat.add_mul, Nat.one_mul]; omega
        have p2 : (x + 1) * 256 ^ ys.length ≤ y * 256 ^ ys.length + val ys := Nat.le_trans (Nat.mul_le_mul_right _ hxy) (Nat.le_add_right _ _)
        have q1 := Nat.mul_le_mul_right (256 ^ (ys.length + 1)) p1
        have q2 := Nat.mul_le_mul_right (256 ^ (xs.length + 1)) p2
        have e : (x + 1) * 256 ^ ys.length * 256 ^ (xs.length + 1) = (x + 1) * 256 ^ xs.length * 256 ^ (ys.length + 1) := by
          rw [Nat.mul_assoc, Nat.mul_assoc, ← Nat.pow_add, ← Nat.pow_add, show ys.length + (xs.length + 1) = xs.length + (ys.length + 1) by omega]
        have pos : 0 < 256 ^ (ys.length + 1) := Nat.pow_pos (by omega)
        rw [Nat.add_mul, Nat.one_mul] at q1
        omega
      have hyx : ¬ y < x := fun hyx => by
        have p1 : y * 256 ^ ys.length + val ys + 1 ≤ (y + 1) * 256 ^ ys.length := by rw [Nat.add_mul, Nat.one_mul]; omega
        have p2 : (y + 1) * 256 ^ xs.length ≤ x * 256 ^ xs.length + val xs := Nat.le_trans (Nat.mul_le_mul_right _ hyx) (Nat.le_add_right _ _)
        have q1 := Nat.mul_le_mul_right (256 ^ (xs.length + 1)) p1
        have q2 := Nat.mul_le_mul_right (256 ^ (ys.length + 1)) p2
        have e : (y + 1) * 256 ^ ys.length * 256 ^ (xs.length + 1) = (y + 1) * 256 ^ xs.length * 256 ^ (ys.length + 1) := by
          rw [Nat.mul_assoc, Nat.mul_assoc, ← Nat.pow_add, ← Nat.pow_add, show ys.length + (xs.length + 1) = xs.length + (ys.length + 1) by omega]
        have pos : 0 < 256 ^ (xs.length + 1) := Nat.pow_pos (by omega)
        rw [Nat.add_mul, Nat.one_mul] at q1
        omega
      have e : x = y := by omega
      subst e
      have h2 : val xs * 256 ^ ys.length ≤ val ys * 256 ^ xs.length := by
        simp only [Nat.add_mul] at heq
        have e : x * 256 ^ ys.length * 256 ^ (xs.length + 1) = x * 256 ^ xs.length * 256 ^ (ys.length + 1) := by
          rw [Nat.mul_assoc, Nat.mul_assoc, ← Nat.pow_add, ← Nat.pow_add, show ys.length + (xs.length + 1) = xs.length + (ys.length + 1) by omega]
        have h3 : val xs * 256 ^ (ys.length + 1) = val ys * 256 ^ (xs.length + 1) := by omega
        rw [Nat.pow_succ, Nat.pow_succ, ← Nat.mul_assoc, ← Nat.mul_assoc] at h3
        omega
      rcases lex_le (fun z hz => ha z (by simp [hz])) (fun z hz => hb z (by simp [hz])) (by simpa using hl) h2 with h4 | h4
      · exact .inl (by rw [h4])
      · exact .inr (.inr ⟨rfl, h4⟩)

/-- The bytes. -/
def by_ (e : E) : List Nat := dg (e.k + 5) e.L
theorem Ok.lt {e : E} (h : Ok e) : e.L < 256 ^ (e.k + 5) := by
  have h1 := h.sum
  have h2 := h.lo
  have e1 : 256 ^ (e.k + 5) = 256 ^ e.k * 1099511627776 := by rw [Nat.pow_add]
  have pos : 0 < 256 ^ e.k := Nat.pow_pos (by omega)
  omega
theorem by_lt {f g : E} (hf : Ok f) (hg : Ok g) (h : f.L * 256 ^ g.k < g.L * 256 ^ f.k) : ltL (by_ f) (by_ g) := by
  refine lex_lt (dg_dig _ _) (dg_dig _ _) ?_
  unfold by_
  rw [dg_len, dg_len, val_dg _ _ hf.lt, val_dg _ _ hg.lt, Nat.pow_add, Nat.pow_add, ← Nat.mul_assoc, ← Nat.mul_assoc]
  omega
theorem by_le {f g : E} (hf : Ok f) (hg : Ok g) (hk : f.k ≤ g.k) (h : f.L * 256 ^ g.k ≤ g.L * 256 ^ f.k) : by_ f = by_ g ∨ ltL (by_ f) (by_ g) := by
  refine lex_le (dg_dig _ _) (dg_dig _ _) ?_ ?_
  · unfold by_
    rw [dg_len, dg_len]
    omega
  · unfold by_
    rw [dg_len, dg_len, val_dg _ _ hf.lt, val_dg _ _ hg.lt, Nat.pow_add, Nat.pow_add, ← Nat.mul_assoc, ← Nat.mul_assoc]
    omega

/-- The range behind n bits without a probability. -/
def dirs (n : Nat) : Nat := if n < 8 then 4294967295 / 2 ^ n else 4294967040 / 2 ^ (n % 8)
theorem half_R (e : E) (one : Bool) : (half e one).R = if e.R / 2 < 16777216 then 256 * (e.R / 2) else e.R / 2 := by cases one <;> (simp only [half, widen, hpart, Bool.false_eq_true, if_false, if_true]; split <;> rfl)
theorem half_k (e : E) (one : Bool) : (half e one).k = if e.R / 2 < 16777216 then e.k + 1 else e.k := by cases one <;> (simp only [half, widen, hpart, Bool.false_eq_true, if_false, if_true]; split <;> rfl)
theorem direct_step {e : E} {n : Nat} (hR : e.R = dirs n) (hk : e.k = n / 8) (one : Bool) : (half e one).R = dirs (n + 1) ∧ (half e one).k = (n + 1) / 8 := by
  rw [half_R, half_k, hR, hk]
  by_cases hn : n < 8
  · have hc : n = 0 ∨ n = 1 ∨ n = 2 ∨ n = 3 ∨ n = 4 ∨ n = 5 ∨ n = 6 ∨ n = 7 := by omega
    rcases hc with rfl | rfl | rfl | rfl | rfl | rfl | rfl | rfl <;> decide
  · obtain ⟨q, r, hr, rfl⟩ : ∃ q r, r < 8 ∧ n = 8 * q + r := ⟨n / 8, n % 8, Nat.mod_lt _ (by omega), by omega⟩
    have e1 : dirs (8 * q + r) = 4294967040 / 2 ^ r := by unfold dirs; rw [if_neg hn, show (8 * q + r) % 8 = r by omega]
    rw [e1]
    have hc : r = 0 ∨ r = 1 ∨ r = 2 ∨ r = 3 ∨ r = 4 ∨ r = 5 ∨ r = 6 ∨ r = 7 := by omega
    have e2 : dirs (8 * q + r + 1) = 4294967040 / 2 ^ ((r + 1) % 8) := by unfold dirs; rw [if_neg (by omega), show (8 * q + r + 1) % 8 = (r + 1) % 8 by omega]
    rw [e2]
    rcases hc with rfl | rfl | rfl | rfl | rfl | rfl | rfl | rfl <;> simp <;> omega
end Go.Proofs.YtikokgngkagieaaDoor.Rc
