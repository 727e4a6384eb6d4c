/- The range decoder over the natural numbers: how it follows an encoder; of no statement by itself. -/
import Derived.Test.YtibgjpifmpljkaaRc
namespace Go.Proofs.Ytibgjpifmpljkaa.Rc

/-- How many bytes are read, the range, the code. -/
structure D where
  n : Nat
  R : Nat
  C : Nat

/-- None: no byte is left. -/
def widenD (b : List Nat) (d : D) : Option D := if d.R < 16777216 then (if d.n < b.length then some ⟨d.n + 1, 256 * d.R, 256 * d.C + b.getD d.n 0⟩ else none) else some d
def oneD (d : D) (B : Nat) : Bool := decide (B ≤ d.C)
def partD (d : D) (B : Nat) : D := if B ≤ d.C then ⟨d.n, d.R - B, d.C - B⟩ else ⟨d.n, B, d.C⟩
def cutD (b : List Nat) (d : D) (B : Nat) : Option D := widenD b (partD d B)
def hpartD (d : D) : D := if d.R / 2 ≤ d.C then ⟨d.n, d.R / 2, d.C - d.R / 2⟩ else ⟨d.n, d.R / 2, d.C⟩
def halfD (b : List Nat) (d : D) : Option D := widenD b (hpartD d)

/-- The decoder d of the bytes of F stands where the encoder stood at e. -/
structure Tracks (e F : E) (d : D) : Prop where
  n : d.n = e.k + 5
  R : d.R = e.R
  C : d.C + e.L = F.L / 256 ^ (F.k - e.k)
  within : Within e F

theorem Tracks.lt {e F : E} {d : D} (h : Tracks e F d) (hF : 0 < F.R) : d.C < d.R := by
  have h1 := h.C
  have h2 := h.within.high
  have h3 : F.L / 256 ^ (F.k - e.k) < e.L + e.R := by
    rw [Nat.div_lt_iff_lt_mul (Nat.pow_pos (by omega))]
    omega
  have := h.R
  omega
theorem Tracks.none {F : E} {d : D} (h : Tracks F F d) : d.n = F.k + 5 ∧ d.C = 0 := by
  have h1 := h.C
  rw [Nat.sub_self, Nat.pow_zero, Nat.div_one] at h1
  exact ⟨h.n, by omega⟩

/-- One more byte is told. -/
theorem div_step (x d : Nat) : x / 256 ^ d = 256 * (x / 256 ^ (d + 1)) + x / 256 ^ d % 256 := by
  have e : x / 256 ^ (d + 1) = x / 256 ^ d / 256 := by rw [Nat.pow_succ, Nat.div_div_eq_div_mul]
  rw [e]
  omega
theorem dg_at : ∀ (n L i : Nat), i < n → (dg n L).getD i 0 = L / 256 ^ (n - 1 - i) % 256
  | 0, _, _, h => by omega
  | n + 1, L, i, h => by
    rw [dg, List.getD_eq_getElem?_getD]
    by_cases hi : i < n
    · rw [List.getElem?_append_left (by rw [dg_len]; exact hi), ← List.getD_eq_getElem?_getD, dg_at n (L / 256) i hi, Nat.div_div_eq_div_mul]
      have e : n + 1 - 1 - i = n - 1 - i + 1 := by omega
      rw [e, Nat.pow_succ, Nat.mul_comm]
    · have e : i = n := by omega
      subst e
      rw [List.getElem?_append_right (by rw [dg_len]; exact Nat.le_refl _), dg_len, Nat.sub_self]
      simp

/-- The bytes of F, with anything behind them. -/
def Begins (F : E) (b : List Nat) : Prop := F.k + 5 ≤ b.length ∧ ∀ i, i < F.k + 5 → b.getD i 0 = F.L / 256 ^ (F.k + 4 - i) % 256
theorem begins_by (F : E) (t : List Nat) : Begins F (by_ F ++ t) := by
  refine ⟨by rw [List.length_append]; unfold by_; rw [dg_len]; omega, fun i hi => ?_⟩
  rw [List.getD_eq_getElem?_getD, List.getElem?_append_left (by unfold by_; rw [dg_len]; exact hi), ← List.getD_eq_getElem?_getD]
  unfold by_
  rw [dg_at _ _ _ hi]
  congr 2

theorem widen_tracks {e F : E} {d : D} {b : List Nat} (hb : Begins F b) (hn : d.n = e.k + 5) (hR : d.R = e.R) (hC : d.C + e.L = F.L / 256 ^ (F.k - e.k)) (hw : Within (widen e) F) : ∃ d', widenD b d = some d' ∧ Tracks (widen e) F d' := by
  unfold widenD
  rw [hR]
  by_cases h : e.R < 16777216
  · have ew : widen e = ⟨256 * e.L, 256 * e.R, e.k + 1⟩ := by unfold widen; rw [if_pos h]
    rw [ew] at hw ⊢
    have hk : e.k + 1 ≤ F.k := hw.k
    have hl := hb.1
    rw [if_pos h, if_pos (by omega)]
    refine ⟨_, rfl, ⟨by show d.n + 1 = e.k + 1 + 5; omega, rfl, ?_, hw⟩⟩
    show 256 * d.C + b.getD d.n 0 + 256 * e.L = F.L / 256 ^ (F.k - (e.k + 1))
    rw [hb.2 d.n (by omega), div_step F.L (F.k - (e.k + 1)), show F.k - (e.k + 1) + 1 = F.k - e.k by omega, show F.k + 4 - d.n = F.k - (e.k + 1) by omega]
    omega
  · have ew : widen e = e := by unfold widen; rw [if_neg h]
    rw [ew] at hw ⊢
    rw [if_neg h]
    exact ⟨d, rfl, ⟨hn, hR, hC, hw⟩⟩

theorem cut_tracks {e F : E} {d : D} {b : List Nat} {B : Nat} {one : Bool} (hb : Begins F b) (h : Tracks e F d) (hF : 0 < F.R) (hw : Within (cut e B one) F) : oneD d B = one ∧ ∃ d', cutD b d B = some d' ∧ Tracks (cut e B one) F d' := by
  have hp : Within (part e B one) F := (widen_within _).trans hw
  have hC := h.C
  have hk := h.within.k
  have hlo : ∀ x, x * 256 ^ (F.k - e.k) ≤ F.L → x ≤ F.L / 256 ^ (F.k - e.k) := fun x hx => by
    rw [Nat.le_div_iff_mul_le (Nat.pow_pos (by omega))]
    exact hx
  have hhi : ∀ x, F.L + F.R ≤ x * 256 ^ (F.k - e.k) → F.L / 256 ^ (F.k - e.k) < x := fun x hx => by
    rw [Nat.div_lt_iff_lt_mul (Nat.pow_pos (by omega))]
    omega
  cases one with
  | true =>
    have h1 : (e.L + B) * 256 ^ (F.k - e.k) ≤ F.L := hp.low
    have h2 := hlo _ h1
    have hBC : B ≤ d.C := by omega
    refine ⟨decide_eq_true hBC, ?_⟩
    unfold cutD partD
    rw [if_pos hBC]
    exact widen_tracks (e := ⟨e.L + B, e.R - B, e.k⟩) hb h.n (by show d.R - B = e.R - B; rw [h.R]) (by show d.C - B + (e.L + B) = F.L / 256 ^ (F.k - e.k); omega) hw
  | false =>
    have h1 : F.L + F.R ≤ (e.L + B) * 256 ^ (F.k - e.k) := hp.high
    have h2 := hhi _ h1
    have hBC : ¬ B ≤ d.C := by omega
    refine ⟨decide_eq_false hBC, ?_⟩
    unfold cutD partD
    rw [if_neg hBC]
    exact widen_tracks (e := ⟨e.L, B, e.k⟩) hb h.n rfl hC hw
theorem half_tracks {e F : E} {d : D} {b : List Nat} {one : Bool} (hb : Begins F b) (h : Tracks e F d) (hF : 0 < F.R) (hw : Within (half e one) F) : oneD d (d.R / 2) = one ∧ ¬ (hpartD d).R ≤ (hpartD d).C ∧ ∃ d', halfD b d = some d' ∧ Tracks (half e one) F d' := by
  have hp : Within (hpart e one) F := (widen_within _).trans hw
  have hC := h.C
  have hR := h.R
  have hlo : ∀ x, x * 256 ^ (F.k - e.k) ≤ F.L → x ≤ F.L / 256 ^ (F.k - e.k) := fun x hx => by
    rw [Nat.le_div_iff_mul_le (Nat.pow_pos (by omega))]
    exact hx
  have hhi : ∀ x, F.L + F.R ≤ x * 256 ^ (F.k - e.k) → F.L / 256 ^ (F.k - e.k) < x := fun x hx => by
    rw [Nat.div_lt_iff_lt_mul (Nat.pow_pos (by omega))]
    omega
  cases one with
  | true =>
    have h1 : (e.L + e.R / 2) * 256 ^ (F.k - e.k) ≤ F.L := hp.low
    have h2 := hlo _ h1
    have h3 : F.L + F.R ≤ (e.L + e.R / 2 + e.R / 2) * 256 ^ (F.k - e.k) := hp.high
    have h4 := hhi _ h3
    have hBC : d.R / 2 ≤ d.C := by rw [hR]; omega
    have e1 : hpartD d = ⟨d.n, d.R / 2, d.C - d.R / 2⟩ := by unfold hpartD; rw [if_pos hBC]
    refine ⟨decide_eq_true hBC, ?_, ?_⟩
    · rw [e1]
      show ¬ d.R / 2 ≤ d.C - d.R / 2
      rw [hR]
      rw [hR] at hBC
      omega
    · unfold halfD
      rw [e1]
      exact widen_tracks (e := ⟨e.L + e.R / 2, e.R / 2, e.k⟩) hb h.n (by show d.R / 2 = e.R / 2; rw [hR]) (by show d.C - d.R / 2 + (e.L + e.R / 2) = F.L / 256 ^ (F.k - e.k); rw [hR] at hBC ⊢; omega) hw
  | false =>
    have h1 : F.L + F.R ≤ (e.L + e.R / 2) * 256 ^ (F.k - e.k) := hp.high
    have h2 := hhi _ h1
    have hBC : ¬ d.R / 2 ≤ d.C := by rw [hR]; omega
    have e1 : hpartD d = ⟨d.n, d.R / 2, d.C⟩ := by unfold hpartD; rw [if_neg hBC]
    refine ⟨decide_eq_false hBC, ?_, ?_⟩
    · rw [e1]
      exact hBC
    · unfold halfD
      rw [e1]
      exact widen_tracks (e := ⟨e.L, e.R / 2, e.k⟩) hb h.n (by show d.R / 2 = e.R / 2; rw [hR]) hC hw

/-- The code that the first five bytes are. -/
def code5 (b : List Nat) : Nat := ((b.getD 1 0 * 256 + b.getD 2 0) * 256 + b.getD 3 0) * 256 + b.getD 4 0
theorem start_tracks {F : E} {b : List Nat} (hb : Begins F b) (hw : Within start F) (hF : 0 < F.R) : b.getD 0 0 = 0 ∧ code5 b < 4294967295 ∧ Tracks start F ⟨5, 4294967295, code5 b⟩ := by
  have h1 : F.L + F.R ≤ (0 + 4294967295) * 256 ^ (F.k - 0) := hw.high
  have h2 : F.L / 256 ^ F.k < 4294967295 := by
    rw [Nat.div_lt_iff_lt_mul (Nat.pow_pos (by omega))]
    rw [Nat.sub_zero] at h1
    omega
  have a0 := hb.2 0 (by omega)
  have a1 := hb.2 1 (by omega)
  have a2 := hb.2 2 (by omega)
  have a3 := hb.2 3 (by omega)
  have a4 := hb.2 4 (by omega)
  rw [show F.k + 4 - 0 = F.k + 4 by omega] at a0
  rw [show F.k + 4 - 1 = F.k + 3 by omega] at a1
  rw [show F.k + 4 - 2 = F.k + 2 by omega] at a2
  rw [show F.k + 4 - 3 = F.k + 1 by omega] at a3
  rw [show F.k + 4 - 4 = F.k by omega] at a4
  have s0 := div_step F.L F.k
  have s1 := div_step F.L (F.k + 1)
  have s2 := div_step F.L (F.k + 2)
  have s3 := div_step F.L (F.k + 3)
  have s4 := div_step F.L (F.k + 4)
  have hc : code5 b = F.L / 256 ^ F.k ∧ b.getD 0 0 = 0 := by
    unfold code5
    rw [a1, a2, a3, a4, a0]
    generalize F.L / 256 ^ F.k = x0 at *
    generalize F.L / 256 ^ (F.k + 1) = x1 at *
    generalize F.L / 256 ^ (F.k + 2) = x2 at *
    generalize F.L / 256 ^ (F.k + 3) = x3 at *
    generalize F.L / 256 ^ (F.k + 4) = x4 at *
    generalize F.L / 256 ^ (F.k + 4 + 1) = x5 at *
    omega
  refine ⟨hc.2, by rw [hc.1]; exact h2, ⟨rfl, rfl, ?_, hw⟩⟩
  show code5 b + 0 = F.L / 256 ^ (F.k - 0)
  rw [hc.1]
  rfl
end Go.Proofs.Ytibgjpifmpljkaa.Rc
