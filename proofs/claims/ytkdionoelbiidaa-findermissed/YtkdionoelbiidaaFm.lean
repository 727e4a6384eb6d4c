/- The mathematics of what came before in the same words: runs of equal bytes, the distances that are looked at, matches, the best of them; of no statement by itself. -/
import Derived.Test.YtkdionoelbiidaaRc
namespace Go.Proofs.Ytkdionoelbiidaa
set_option linter.unusedVariables false

/-- The byte j behind p is the one j behind q. -/
def okAt (d : List Nat) (p q j : Nat) : Prop := p + j < d.length ∧ d.getD (q + j) 0 = d.getD (p + j) 0
instance (d : List Nat) (p q j : Nat) : Decidable (okAt d p q j) := by unfold okAt; infer_instance
/-- How many bytes from q on are those from p on, at most m. -/
def runN (d : List Nat) (p q : Nat) : Nat → Nat
  | 0 => 0
  | m + 1 => if runN d p q m = m ∧ okAt d p q m then m + 1 else runN d p q m
theorem runN_le (d : List Nat) (p q : Nat) : ∀ m, runN d p q m ≤ m
  | 0 => Nat.le_refl _
  | m + 1 => by
    unfold runN
    have := runN_le d p q m
    split <;> omega
theorem runN_ok (d : List Nat) (p q : Nat) : ∀ m j, j < runN d p q m → okAt d p q j
  | 0, j, h => by unfold runN at h; omega
  | m + 1, j, h => by
    unfold runN at h
    split at h
    · rename_i c
      by_cases e : j = m
      · rw [e]; exact c.2
      · exact runN_ok d p q m j (by omega)
    · exact runN_ok d p q m j h
theorem runN_end (d : List Nat) (p q : Nat) : ∀ m, runN d p q m = m ∨ ¬ okAt d p q (runN d p q m)
  | 0 => .inl rfl
  | m + 1 => by
    unfold runN
    split
    · exact .inl rfl
    · rename_i c
      rcases runN_end d p q m with e | e
      · refine .inr (fun f => c ⟨e, ?_⟩)
        rw [e] at f
        exact f
      · exact .inr e
/-- What a loop that counts comes to. -/
theorem runN_is {d : List Nat} {p q m n : Nat} (h1 : n ≤ m) (h2 : ∀ j, j < n → okAt d p q j) (h3 : n = m ∨ ¬ okAt d p q n) : runN d p q m = n := by
  have a1 := runN_le d p q m
  have a2 := runN_ok d p q m
  have a3 := runN_end d p q m
  by_cases c : runN d p q m < n
  · rcases a3 with e | e
    · omega
    · exact absurd (h2 _ c) e
  · by_cases c2 : n < runN d p q m
    · rcases h3 with e | e
      · omega
      · exact absurd (a2 _ c2) e
    · omega
theorem runN_min (d : List Nat) (p q : Nat) {m m' : Nat} (h : m ≤ m') : runN d p q m = min m (runN d p q m') := by
  have a1 := runN_le d p q m'
  have a2 := runN_ok d p q m'
  have a3 := runN_end d p q m'
  refine runN_is (Nat.min_le_left _ _) (fun j hj => a2 j (by omega)) ?_
  by_cases c : m ≤ runN d p q m'
  · exact .inl (by omega)
  · rcases a3 with e | e
    · omega
    · refine .inr ?_
      rw [Nat.min_eq_right (by omega)]
      exact e
theorem runN_left (d : List Nat) (p q m : Nat) (h : 0 < runN d p q m) : p + runN d p q m ≤ d.length := by
  have := (runN_ok d p q m (runN d p q m - 1) (by omega)).1
  omega
/-- The bound of a length. -/
def bnd (most : Int) : Nat := min most.toNat 273
/-- A distance at which the same three bytes stand, within the dictionary. -/
def hitAt (d : List Nat) (dict p t : Nat) : Prop := t ≤ dict ∧ runN d p (p - t) 3 = 3
instance (d : List Nat) (dict p t : Nat) : Decidable (hitAt d dict p t) := by unfold hitAt; infer_instance
/-- Such distances from 1 to k. -/
def scan (d : List Nat) (dict p : Nat) : Nat → List Nat
  | 0 => []
  | k + 1 => if hitAt d dict p (k + 1) then scan d dict p k ++ [k + 1] else scan d dict p k
theorem scan_mem {d : List Nat} {dict p : Nat} : ∀ {k t : Nat}, t ∈ scan d dict p k → 1 ≤ t ∧ t ≤ k ∧ hitAt d dict p t
  | 0, t, h => by unfold scan at h; cases h
  | k + 1, t, h => by
    unfold scan at h
    split at h
    · rename_i c
      rcases List.mem_append.1 h with f | f
      · have := scan_mem f; exact ⟨this.1, by omega, this.2.2⟩
      · rw [List.mem_singleton.1 f]; exact ⟨by omega, Nat.le_refl _, c⟩
    · have := scan_mem h; exact ⟨this.1, by omega, this.2.2⟩
theorem scan_prefix (d : List Nat) (dict p : Nat) (k : Nat) : ∀ j, scan d dict p k <+: scan d dict p (k + j)
  | 0 => List.prefix_refl _
  | j + 1 => by
    show scan d dict p k <+: (if hitAt d dict p (k + j + 1) then scan d dict p (k + j) ++ [k + j + 1] else scan d dict p (k + j))
    split
    · exact (scan_prefix d dict p k j).trans (List.prefix_append _ _)
    · exact scan_prefix d dict p k j
theorem scan_past (d : List Nat) (dict p k : Nat) (h : dict ≤ k) : ∀ j, scan d dict p (k + j) = scan d dict p k
  | 0 => rfl
  | j + 1 => by
    show (if hitAt d dict p (k + j + 1) then scan d dict p (k + j) ++ [k + j + 1] else scan d dict p (k + j)) = _
    rw [if_neg (fun f => by have := f.1; omega)]
    exact scan_past d dict p k h j
theorem scan_asc (d : List Nat) (dict p : Nat) : ∀ k, (scan d dict p k).Pairwise (· < ·)
  | 0 => List.Pairwise.nil
  | k + 1 => by
    unfold scan
    split
    · refine List.pairwise_append.2 ⟨scan_asc d dict p k, List.pairwise_singleton _ _, fun a ha b hb => ?_⟩
      rw [List.mem_singleton.1 hb]
      have := (scan_mem ha).2.1
      omega
    · exact scan_asc d dict p k
/-- The distances that are looked at. -/
def cand (d : List Nat) (dict p : Nat) : List Nat := (scan d dict p p).take 32
/-- Where the search may stop. -/
theorem cand_stop {d : List Nat} {dict p k : Nat} (hk : k ≤ p) (hl : (scan d dict p k).length ≤ 32) (h : k = p ∨ dict ≤ k ∨ (scan d dict p k).length = 32) : cand d dict p = scan d dict p k := by
  unfold cand
  have hp := scan_prefix d dict p k (p - k)
  rw [show k + (p - k) = p by omega] at hp
  rcases h with e | e | e
  · subst e
    exact List.take_of_length_le hl
  · have := scan_past d dict p k e (p - k)
    rw [show k + (p - k) = p by omega] at this
    rw [this]
    exact List.take_of_length_le hl
  · obtain ⟨r, hr⟩ := hp
    rw [← hr, ← e]
    exact List.take_left
theorem cand_len (d : List Nat) (dict p : Nat) : (cand d dict p).length ≤ 32 := by unfold cand; rw [List.length_take]; omega
theorem cand_mem {d : List Nat} {dict p t : Nat} (h : t ∈ cand d dict p) : 1 ≤ t ∧ t ≤ p ∧ hitAt d dict p t := scan_mem (List.mem_of_mem_take h)
theorem cand_asc (d : List Nat) (dict p : Nat) : (cand d dict p).Pairwise (· < ·) := (scan_asc d dict p p).sublist (List.take_sublist _ _)
/-- The match of a distance, if it is one. -/
def matAt (d : List Nat) (p : Nat) (m : Nat) (t : Nat) : Option (Nat × Nat) := if 3 ≤ runN d p (p - t) m then some (runN d p (p - t) m, t) else none
/-- The matches. -/
def mat (d : List Nat) (dict p : Nat) (most : Int) : List (Nat × Nat) := (cand d dict p).filterMap (matAt d p (bnd most))
theorem mat_len (d : List Nat) (dict p : Nat) (most : Int) : (mat d dict p most).length ≤ 32 := Nat.le_trans (List.length_filterMap_le _ _) (cand_len d dict p)
theorem mat_mem {d : List Nat} {dict p : Nat} {most : Int} {m : Nat × Nat} (h : m ∈ mat d dict p most) : 3 ≤ m.1 ∧ m.1 ≤ 273 ∧ m.1 = runN d p (p - m.2) (bnd most) ∧ 1 ≤ m.2 ∧ m.2 ≤ p ∧ m.2 ≤ dict := by
  obtain ⟨t, ht, e⟩ := List.mem_filterMap.1 h
  unfold matAt at e
  split at e
  · rename_i c
    cases e
    have h1 := cand_mem ht
    have h2 := runN_le d p (p - t) (bnd most)
    have h3 : bnd most ≤ 273 := Nat.min_le_right _ _
    exact ⟨c, by show _ ≤ 273; omega, rfl, h1.1, h1.2.1, h1.2.2.1⟩
  · cases e
/-- The first of the longest. -/
def bestM (l : List (Nat × Nat)) : Nat × Nat := l.foldl (fun b m => if b.1 < m.1 then m else b) (0, 0)
def maxL (l : List (Nat × Nat)) : Nat := l.foldl (fun b m => max b m.1) 0
theorem best_fold : ∀ (l : List (Nat × Nat)) (b : Nat × Nat), (l.foldl (fun b m => if b.1 < m.1 then m else b) b).1 = l.foldl (fun b m => max b m.1) b.1
  | [], b => rfl
  | m :: l, b => by
    simp only [List.foldl_cons]
    rw [best_fold l]
    congr 1
    split <;> omega
theorem bestM_max (l : List (Nat × Nat)) : (bestM l).1 = maxL l := best_fold l (0, 0)
theorem bestM_snoc (l : List (Nat × Nat)) (m : Nat × Nat) : bestM (l ++ [m]) = if (bestM l).1 < m.1 then m else bestM l := by unfold bestM; rw [List.foldl_append]; rfl
theorem bestM_in : ∀ (l : List (Nat × Nat)), bestM l = (0, 0) ∨ bestM l ∈ l := by
  intro l
  suffices h : ∀ (l : List (Nat × Nat)) (b : Nat × Nat), (l.foldl (fun b m => if b.1 < m.1 then m else b) b) = b ∨ (l.foldl (fun b m => if b.1 < m.1 then m else b) b) ∈ l from h l (0, 0)
  intro l
  induction l with
  | nil => exact fun b => .inl rfl
  | cons m l ih =>
    intro b
    simp only [List.foldl_cons]
    rcases ih (if b.1 < m.1 then m else b) with e | e
    · rw [e]
      split
      · exact .inr List.mem_cons_self
      · exact .inl rfl
    · exact .inr (List.mem_cons_of_mem _ e)
theorem bestM_small {d : List Nat} {dict p : Nat} {most : Int} : (bestM (mat d dict p most)).1 ≤ 273 ∧ (bestM (mat d dict p most)).2 ≤ p := by
  rcases bestM_in (mat d dict p most) with e | e
  · rw [e]; exact ⟨by omega, by omega⟩
  · have := mat_mem e; exact ⟨this.2.1, this.2.2.2.2.1⟩
end Go.Proofs.Ytkdionoelbiidaa
