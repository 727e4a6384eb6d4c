/- Mathematics of places that are kept by their three bytes; of no statement by itself. -/
import Derived.Test.YtkdionoelbiidaaFm
namespace Go.Proofs.Ytkdionoelbiidaa
set_option linter.unusedVariables false

/-- The places ahead of p, of three bytes or more, whose key is kl. -/
def plc {κ : Type} [DecidableEq κ] (d : List Nat) (key : Nat → κ) (p : Nat) (kl : κ) : List Nat := (List.range p).filter (fun q => decide (q + 3 ≤ d.length) && decide (key q = kl))
section
variable {κ : Type} [DecidableEq κ] {d : List Nat} {key : Nat → κ}
theorem plc_zero (kl : κ) : plc d key 0 kl = [] := rfl
theorem plc_yes {p : Nat} {kl : κ} (h : p + 3 ≤ d.length) (hk : key p = kl) : plc d key (p + 1) kl = plc d key p kl ++ [p] := by
  unfold plc
  rw [List.range_succ, List.filter_append]
  simp [h, hk]
theorem plc_no {p : Nat} {kl : κ} (h : ¬ (p + 3 ≤ d.length ∧ key p = kl)) : plc d key (p + 1) kl = plc d key p kl := by
  unfold plc
  rw [List.range_succ, List.filter_append]
  have : (decide (p + 3 ≤ d.length) && decide (key p = kl)) = false := by
    rw [Bool.eq_false_iff]
    intro e
    simp at e
    exact h e
  simp [this]
theorem plc_len (p : Nat) (kl : κ) : (plc d key p kl).length ≤ p := by
  unfold plc
  exact Nat.le_trans (List.length_filter_le _ _) (by simp)
theorem plc_mem {p q : Nat} {kl : κ} (h : q ∈ plc d key p kl) : q < p ∧ q + 3 ≤ d.length ∧ key q = kl := by
  unfold plc at h
  simp only [List.mem_filter, List.mem_range, Bool.and_eq_true, decide_eq_true_eq] at h
  exact h
/-- At which distances they lie, the nearest first. -/
def dst {κ : Type} [DecidableEq κ] (d : List Nat) (key : Nat → κ) (p : Nat) (kl : κ) : List Nat := (plc d key p kl).reverse.map (p - ·)
theorem dst_len (p : Nat) (kl : κ) : (dst d key p kl).length = (plc d key p kl).length := by simp [dst]
theorem dst_at {p : Nat} {kl : κ} {k : Nat} (h : k < (plc d key p kl).length) : (dst d key p kl)[k]? = ((plc d key p kl)[(plc d key p kl).length - 1 - k]?).map (p - ·) := by
  unfold dst
  rw [List.getElem?_map, List.getElem?_reverse h]
end
theorem range_back : ∀ p, (List.range p).reverse.map (p - ·) = (List.range p).map (· + 1)
  | p => by
    refine List.ext_getElem (by simp) (fun i h1 h2 => ?_)
    simp at h1
    simp
    omega
theorem scan_range (d : List Nat) (dict p : Nat) : ∀ k, scan d dict p k = ((List.range k).map (· + 1)).filter (fun t => decide (hitAt d dict p t))
  | 0 => rfl
  | k + 1 => by
    unfold scan
    rw [List.range_succ, List.map_append, List.filter_append, scan_range d dict p k]
    by_cases h : hitAt d dict p (k + 1)
    · simp [h]
    · simp [h]
theorem scan_plc {κ : Type} [DecidableEq κ] {d : List Nat} {key : Nat → κ} {dict p : Nat} (hp : p + 3 ≤ d.length) (hk : ∀ q, q < p → (key q = key p ↔ runN d p q 3 = 3)) : scan d dict p p = (dst d key p (key p)).filter (fun t => decide (t ≤ dict)) := by
  rw [scan_range, ← range_back]
  unfold dst plc
  rw [← List.filter_reverse]
  generalize hl : (List.range p).reverse = l
  have hm : ∀ q ∈ l, q < p := fun q hq => by rw [← hl] at hq; simpa using hq
  clear hl
  induction l with
  | nil => rfl
  | cons q l ih =>
    have hq := hm q (by simp)
    have ih' := ih (fun x hx => hm x (by simp [hx]))
    have e1 : p - (p - q) = q := by omega
    have hh : hitAt d dict p (p - q) ↔ (p - q ≤ dict ∧ key q = key p) := by
      unfold hitAt
      rw [e1, hk q hq]
    have h3 : q + 3 ≤ d.length := by omega
    by_cases hkey : key q = key p
    · by_cases hd : p - q ≤ dict
      · have h1 : hitAt d dict p (p - q) := hh.2 ⟨hd, hkey⟩
        simp only [List.map_cons, List.filter_cons, h1, hkey, h3, hd, decide_true, Bool.and_self, if_true]
        rw [ih']
      · have h1 : ¬ hitAt d dict p (p - q) := fun e => hd (hh.1 e).1
        simp only [List.map_cons, List.filter_cons, h1, hkey, h3, hd, decide_true, decide_false, Bool.and_self, if_true, Bool.false_eq_true, if_false]
        exact ih'
    · have h1 : ¬ hitAt d dict p (p - q) := fun e => hkey (hh.1 e).2
      simp only [List.map_cons, List.filter_cons, h1, hkey, decide_false, Bool.and_false, Bool.false_eq_true, if_false]
      exact ih'
/-- Fewer than three bytes are left. -/
theorem scan_short {d : List Nat} {dict p : Nat} (hp : ¬ p + 3 ≤ d.length) : ∀ k, scan d dict p k = []
  | k => by
    rw [List.eq_nil_iff_forall_not_mem]
    intro t ht
    have h := (scan_mem ht).2.2.2
    have h2 := runN_left d p (p - t) 3 (by omega)
    omega
theorem mat_short {d : List Nat} {dict p : Nat} {most : Int} (hp : ¬ p + 3 ≤ d.length) : mat d dict p most = [] := by
  unfold mat cand
  rw [scan_short hp]
  rfl
theorem plc_asc {κ : Type} [DecidableEq κ] (d : List Nat) (key : Nat → κ) (p : Nat) (kl : κ) : (plc d key p kl).Pairwise (· < ·) := List.Pairwise.filter _ List.pairwise_lt_range
theorem dst_asc {κ : Type} [DecidableEq κ] (d : List Nat) (key : Nat → κ) (p : Nat) (kl : κ) : (dst d key p kl).Pairwise (· < ·) := by
  unfold dst
  rw [List.pairwise_map, List.pairwise_reverse]
  refine (plc_asc d key p kl).imp_of_mem ?_
  intro a b ha hb hab
  have h2 := (plc_mem hb).1
  omega
/-- Along a rising list: all within, then none. -/
theorem rise_in {l : List Nat} {n : Nat} : ∀ {k : Nat}, (∀ t ∈ l.take k, t ≤ n) → ∃ r, l.filter (fun t => decide (t ≤ n)) = l.take k ++ r
  | 0, _ => ⟨l.filter (fun t => decide (t ≤ n)), by simp⟩
  | k + 1, h => by
    cases l with
    | nil => exact ⟨[], by simp⟩
    | cons t l =>
      have ht : t ≤ n := h t (by simp)
      obtain ⟨r, hr⟩ := rise_in (l := l) (k := k) (fun x hx => h x (by simp [hx]))
      exact ⟨r, by simp [ht, hr]⟩
theorem rise_out {l : List Nat} {n : Nat} (hs : l.Pairwise (· < ·)) : ∀ {k t : Nat}, (∀ x ∈ l.take k, x ≤ n) → l[k]? = some t → n < t → l.filter (fun t => decide (t ≤ n)) = l.take k := by
  induction l with
  | nil => intro k t _ h; simp at h
  | cons a l ih =>
    intro k t h1 h2 h3
    have hs' := List.pairwise_cons.1 hs
    cases k with
    | zero =>
      simp at h2
      subst h2
      simp only [List.take_zero]
      rw [List.filter_eq_nil_iff]
      intro x hx
      rcases List.mem_cons.1 hx with rfl | hx
      · simp; omega
      · have := hs'.1 x hx
        simp; omega
    | succ k =>
      have ha : a ≤ n := h1 a (by simp)
      have := ih hs'.2 (k := k) (t := t) (fun x hx => h1 x (by simp [hx])) (by simpa using h2) h3
      simp [ha, this]
theorem rise_all {l : List Nat} {n : Nat} (h : ∀ x ∈ l, x ≤ n) : l.filter (fun t => decide (t ≤ n)) = l := by
  rw [List.filter_eq_self]
  intro x hx
  simpa using h x hx
end Go.Proofs.Ytkdionoelbiidaa
