/- Probabilities over the whole numbers: moving, cutting, costing, and what is true of them; of no statement by itself. -/
namespace Go.Proofs.Ytejopgopcocapaa.Prob

/-- Brought into 0 to 2047. -/
def cl (p : Int) : Int := if p < 0 then 0 else if 2047 < p then 2047 else p
theorem cl_lo (p : Int) : 0 ≤ cl p := by unfold cl; split <;> (try split) <;> omega
theorem cl_hi (p : Int) : cl p ≤ 2047 := by unfold cl; split <;> (try split) <;> omega
theorem cl_id {p : Int} (h : 0 ≤ p) (h2 : p ≤ 2047) : cl p = p := by unfold cl; split <;> (try split) <;> omega

/-- Behind a 0. -/
def up (p : Int) : Int := p + (2048 - p) / 32
/-- Behind a 1. -/
def dn (p : Int) : Int := p - p / 32
def nx (p b : Int) : Int := if b = 0 then up (cl p) else dn (cl p)
theorem nx0 {p : Int} (h : 0 ≤ p) (h2 : p ≤ 2047) : nx p 0 = up p := by unfold nx; rw [if_pos rfl, cl_id h h2]
theorem nx1 {p b : Int} (hb : b ≠ 0) (h : 0 ≤ p) (h2 : p ≤ 2047) : nx p b = dn p := by unfold nx; rw [if_neg hb, cl_id h h2]
theorem up_le {p q : Int} (h : p ≤ q) : up p ≤ up q := by unfold up; omega
theorem dn_le {p q : Int} (h : p ≤ q) : dn p ≤ dn q := by unfold dn; omega
theorem up_ge {p : Int} (h : p ≤ 2047) : p ≤ up p := by unfold up; omega
theorem dn_ge {p : Int} (h : 0 ≤ p) : dn p ≤ p := by unfold dn; omega
theorem up_lo {p : Int} (h : 31 ≤ p) (h2 : p ≤ 2017) : 31 ≤ up p ∧ up p ≤ 2017 := by unfold up; omega
theorem dn_lo {p : Int} (h : 31 ≤ p) (h2 : p ≤ 2017) : 31 ≤ dn p ∧ dn p ≤ 2017 := by unfold dn; omega
theorem nx_lo {p b : Int} (h : 31 ≤ p) (h2 : p ≤ 2017) : 31 ≤ nx p b ∧ nx p b ≤ 2017 := by
  by_cases hb : b = 0
  · subst hb; rw [nx0 (by omega) (by omega)]; exact up_lo h h2
  · rw [nx1 hb (by omega) (by omega)]; exact dn_lo h h2
theorem nx_in (p b : Int) : 0 ≤ nx p b ∧ nx p b ≤ 2047 := by
  have h1 := cl_lo p
  have h2 := cl_hi p
  unfold nx up dn
  split <;> omega

/-- From 31 on, n zeros. -/
def ups : Nat → Int
  | 0 => 31
  | n + 1 => up (ups n)
/-- From 2017 on, n ones. -/
def dns : Nat → Int
  | 0 => 2017
  | n + 1 => dn (dns n)
theorem ups_end : ups 300 = 2017 := by decide +kernel
theorem dns_end : dns 300 = 31 := by decide +kernel

/-- Halved until it is below 65536, and how often. -/
def halve : Nat → Int → Int → Int × Int
  | 0, w, c => (w, c)
  | n + 1, w, c => if 65536 ≤ w then halve n (w / 2) (c + 1) else (w, c)
theorem halve_end (n : Nat) (w c : Int) (h : w < 65536) : halve n w c = (w, c) := by
  cases n with
  | zero => rfl
  | succ n => unfold halve; rw [if_neg (by omega)]
theorem halve_step (n : Nat) (w c : Int) (h : 65536 ≤ w) : halve (n + 1) w c = halve n (w / 2) (c + 1) := by
  conv => lhs; unfold halve
  rw [if_pos h]
/-- 65536, doubled n times. -/
def big : Nat → Int
  | 0 => 65536
  | n + 1 => 2 * big n
/-- What may have been counted behind n squarings. -/
def cap : Nat → Int
  | 0 => 0
  | n + 1 => 2 * cap n + 16
theorem cap_le : ∀ k, k < 5 → cap k ≤ 240 := by decide +kernel
theorem big_le : ∀ k, k < 17 → big k ≤ 4294967296 := by decide +kernel
/-- n squarings more. -/
def rest : Nat → Int → Int → Int
  | 0, _, c => c
  | n + 1, w, c => rest n (halve 16 (w * w) (2 * c)).1 (halve 16 (w * w) (2 * c)).2
def cost (p : Int) : Int := 161 - rest 4 (16 * (p / 16) + 8) 0
def costs (k : Nat) : Int := 161 - rest 4 (16 * (k : Int) + 8) 0
theorem cost_at (p : Int) (h : 0 ≤ p) : cost p = costs (p.toNat / 16) := by
  unfold cost costs
  rw [show ((p.toNat / 16 : Nat) : Int) = p / 16 by omega]
theorem costs_step : ∀ k, k < 127 → costs (k + 1) ≤ costs k := by decide +kernel
theorem costs_in : ∀ k, k < 127 → 1 ≤ k → 1 ≤ costs k ∧ costs k ≤ 103 := by decide +kernel
theorem costs_all : ∀ k, k < 128 → 1 ≤ costs k ∧ costs k ≤ 161 := by decide +kernel
theorem costs_le : ∀ (d k : Nat), k + d < 128 → costs (k + d) ≤ costs k
  | 0, k, _ => Int.le_refl _
  | d + 1, k, h => Int.le_trans (costs_step (k + d) (by omega)) (costs_le d k (by omega))
theorem cost_le {p q : Int} (h : 0 ≤ p) (hq : q ≤ 2047) (hpq : p ≤ q) : cost q ≤ cost p := by
  rw [cost_at p h, cost_at q (by omega)]
  have e : q.toNat / 16 = p.toNat / 16 + (q.toNat / 16 - p.toNat / 16) := by omega
  rw [e]
  exact costs_le _ _ (by omega)
theorem cost_in {p : Int} (h : 31 ≤ p) (h2 : p ≤ 2017) : 1 ≤ cost p ∧ cost p ≤ 103 := by
  rw [cost_at p (by omega)]
  exact costs_in _ (by omega) (by omega)
theorem cost_in2 {p : Int} (h : 16 ≤ p) (h2 : p ≤ 2031) : 1 ≤ cost p ∧ cost p ≤ 103 := by
  rw [cost_at p (by omega)]
  exact costs_in _ (by omega) (by omega)
theorem cost_all {p : Int} (h : 0 ≤ p) (h2 : p ≤ 2047) : 1 ≤ cost p ∧ cost p ≤ 161 := by
  rw [cost_at p (by omega)]
  exact costs_all _ (by omega)
theorem cost_half : cost 1024 = 16 := by decide +kernel
/-- What a bit costs. -/
def co (p b : Int) : Int := if b = 0 then cost (cl p) else cost (2047 - cl p)
theorem co0 {p : Int} (h : 0 ≤ p) (h2 : p ≤ 2047) : co p 0 = cost p := by unfold co; rw [if_pos rfl, cl_id h h2]
theorem co1 {p b : Int} (hb : b ≠ 0) (h : 0 ≤ p) (h2 : p ≤ 2047) : co p b = cost (2047 - p) := by unfold co; rw [if_neg hb, cl_id h h2]

/-- Where a range is cut. -/
def bo (r p : Int) : Int := r / 2048 * cl p
theorem mul_le {a p q : Int} (ha : 0 ≤ a) (h : p ≤ q) : a * p ≤ a * q := Int.mul_le_mul_of_nonneg_left h ha
theorem bo_le {r p q : Int} (hr : 0 ≤ r) (hp : 0 ≤ p) (hq : q ≤ 2047) (h : p ≤ q) : bo r p ≤ bo r q := by
  unfold bo
  rw [cl_id hp (by omega), cl_id (by omega) hq]
  exact mul_le (by omega) h
theorem bo_in (r p : Int) (hr : 0 ≤ r) : 0 ≤ bo r p ∧ bo r p ≤ r := by
  unfold bo
  have h1 := cl_lo p
  have h2 := cl_hi p
  have e1 := mul_le (a := r / 2048) (by omega) h1
  have e2 := mul_le (a := r / 2048) (by omega) h2
  omega
end Go.Proofs.Ytejopgopcocapaa.Prob
