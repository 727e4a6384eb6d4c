/- Differences and sums of bytes, as lists; of no statement by itself. -/
namespace De19
/-- The byte a distance ahead, 0 ahead of the first. -/
def at_ (xs : List Nat) (i d : Nat) : Nat := if i < d then 0 else xs.getD (i - d) 0
/-- All are bytes. -/
def By (xs : List Nat) : Prop := ∀ x ∈ xs, x < 256
theorem By.nil : By [] := fun _ h => by cases h
theorem By.snoc {xs : List Nat} {x : Nat} (h : By xs) (hx : x < 256) : By (xs ++ [x]) := fun y hy => by
  rcases List.mem_append.1 hy with k | k
  · exact h y k
  · rw [List.mem_singleton.1 k]; exact hx
theorem By.app {xs ys : List Nat} (h : By xs) (k : By ys) : By (xs ++ ys) := fun y hy => (List.mem_append.1 hy).elim (h y) (k y)
theorem By.left {xs ys : List Nat} (h : By (xs ++ ys)) : By xs := fun y hy => h y (List.mem_append_left _ hy)
theorem By.right {xs ys : List Nat} (h : By (xs ++ ys)) : By ys := fun y hy => h y (List.mem_append_right _ hy)
theorem By.get {xs : List Nat} (h : By xs) (i : Nat) : xs.getD i 0 < 256 := by
  rw [List.getD_eq_getElem?_getD]
  cases e : xs[i]? with
  | none => simp
  | some x => exact h x (List.mem_of_getElem? e)
theorem at_lt {xs : List Nat} (h : By xs) (i d : Nat) : at_ xs i d < 256 := by
  unfold at_
  split
  · decide
  · exact h.get _
theorem at_app {xs ys : List Nat} {i d : Nat} (hd : 0 < d) (hi : i ≤ xs.length) : at_ (xs ++ ys) i d = at_ xs i d := by
  unfold at_
  split
  · rfl
  · rw [List.getD_eq_getElem?_getD, List.getD_eq_getElem?_getD, List.getElem?_append_left (by omega)]
/-- One byte more: of differences, or (back) of sums. -/
def one (back : Bool) (x a : Nat) : Nat := if back then (x + a) % 256 else (x + 256 - a) % 256
theorem one_lt (back : Bool) (x a : Nat) : one back x a < 256 := by unfold one; split <;> omega
/-- From all bytes that came and all that were told so far, with these behind: what is told then. -/
def cdA (back : Bool) (d : Nat) : List Nat → List Nat → List Nat → List Nat
  | _, out, [] => out
  | xs, out, x :: r => cdA back d (xs ++ [x]) (out ++ [one back x (at_ (if back then out else xs) xs.length d)]) r
/-- The differences (the sums) of all bytes. -/
def cd (back : Bool) (d : Nat) (xs : List Nat) : List Nat := cdA back d [] [] xs
theorem cdA_app (back : Bool) (d : Nat) : ∀ (r s xs out : List Nat), cdA back d xs out (r ++ s) = cdA back d (xs ++ r) (cdA back d xs out r) s
  | [], s, xs, out => by simp [cdA]
  | x :: r, s, xs, out => by
    rw [List.cons_append]
    show cdA back d (xs ++ [x]) _ (r ++ s) = cdA back d (xs ++ x :: r) (cdA back d (xs ++ [x]) _ r) s
    rw [cdA_app back d r s, List.append_assoc]
    rfl
theorem cd_snoc (back : Bool) (d : Nat) (xs : List Nat) (x : Nat) : cd back d (xs ++ [x]) = cd back d xs ++ [one back x (at_ (if back then cd back d xs else xs) xs.length d)] := by
  unfold cd
  rw [cdA_app]
  simp [cdA]
theorem snoc_ind {P : List Nat → Prop} (h0 : P []) (h1 : ∀ xs x, P xs → P (xs ++ [x])) (xs : List Nat) : P xs := by
  have : ∀ n, ∀ xs : List Nat, xs.length = n → P xs := by
    intro n
    induction n with
    | zero => intro xs h; rw [List.eq_nil_of_length_eq_zero h]; exact h0
    | succ n ih =>
      intro xs h
      have hne : xs ≠ [] := by intro e; subst e; simp at h
      rw [← List.dropLast_concat_getLast hne]
      exact h1 _ _ (ih _ (by rw [List.length_dropLast, h]; rfl))
  exact this _ xs rfl
theorem cd_nil (back : Bool) (d : Nat) : cd back d [] = [] := rfl
theorem cd_len (back : Bool) (d : Nat) (xs : List Nat) : (cd back d xs).length = xs.length := by
  refine snoc_ind (P := fun xs => (cd back d xs).length = xs.length) rfl (fun xs x h => ?_) xs
  rw [cd_snoc]
  simp [h]
theorem cd_by (back : Bool) (d : Nat) (xs : List Nat) : By (cd back d xs) := by
  refine snoc_ind (P := fun xs => By (cd back d xs)) By.nil (fun xs x h => ?_) xs
  rw [cd_snoc]
  exact h.snoc (one_lt _ _ _)
theorem cd_app (back : Bool) (d : Nat) (xs : List Nat) : ∀ ys : List Nat, ∃ r, cd back d (xs ++ ys) = cd back d xs ++ r ∧ r.length = ys.length := by
  intro ys
  refine snoc_ind (P := fun ys => ∃ r, cd back d (xs ++ ys) = cd back d xs ++ r ∧ r.length = ys.length) ⟨[], by simp, rfl⟩ (fun ys y h => ?_) ys
  obtain ⟨r, e, hl⟩ := h
  refine ⟨r ++ [one back y (at_ (if back then cd back d (xs ++ ys) else xs ++ ys) (xs ++ ys).length d)], ?_, by simp [hl]⟩
  rw [← List.append_assoc, cd_snoc, ← List.append_assoc, ← e]
/-- What is told of a piece behind others. -/
def piece (back : Bool) (d : Nat) (all b : List Nat) : List Nat := (cd back d (all ++ b)).drop all.length
theorem piece_app (back : Bool) (d : Nat) (all b : List Nat) : cd back d (all ++ b) = cd back d all ++ piece back d all b := by
  obtain ⟨r, e, _⟩ := cd_app back d all b
  unfold piece
  rw [e, ← cd_len back d all]
  simp
theorem piece_len (back : Bool) (d : Nat) (all b : List Nat) : (piece back d all b).length = b.length := by
  unfold piece
  rw [List.length_drop, cd_len]
  simp
theorem piece_by (back : Bool) (d : Nat) (all b : List Nat) : By (piece back d all b) := fun x hx => cd_by back d (all ++ b) x (List.mem_of_mem_drop hx)
theorem piece_nil (back : Bool) (d : Nat) (b : List Nat) : piece back d [] b = cd back d b := rfl
theorem piece_two (back : Bool) (d : Nat) (all b c : List Nat) : piece back d all (b ++ c) = piece back d all b ++ piece back d (all ++ b) c := by
  have h1 := piece_app back d all (b ++ c)
  have h2 := piece_app back d (all ++ b) c
  have h3 := piece_app back d all b
  rw [← List.append_assoc, h2, h3, List.append_assoc] at h1
  exact (List.append_cancel_left h1).symm
theorem piece_snoc (back : Bool) (d : Nat) (all b : List Nat) (x : Nat) : piece back d all (b ++ [x]) = piece back d all b ++ [one back x (at_ (if back then cd back d (all ++ b) else all ++ b) (all.length + b.length) d)] := by
  have h1 := piece_app back d all (b ++ [x])
  have h2 := piece_app back d all b
  rw [← List.append_assoc, cd_snoc, h2, List.append_assoc, List.length_append] at h1
  rw [← List.append_cancel_left h1, h2]
/-- Each undoes the other. -/
theorem there (back : Bool) (d : Nat) (xs : List Nat) (h : By xs) : cd (!back) d (cd back d xs) = xs := by
  refine snoc_ind (P := fun xs => By xs → cd (!back) d (cd back d xs) = xs) (fun _ => rfl) (fun xs x ih hb => ?_) xs h
  have hx : x < 256 := hb x (by simp)
  have ih := ih hb.left
  rw [cd_snoc, cd_snoc, ih, cd_len]
  congr 1
  congr 1
  cases back
  · have ha := at_lt hb.left xs.length d
    simp only [Bool.not_false, if_true, Bool.false_eq_true, if_false]
    unfold one
    simp only [if_true, Bool.false_eq_true, if_false]
    omega
  · have ha := at_lt (cd_by true d xs) xs.length d
    simp only [Bool.not_true, if_true, Bool.false_eq_true, if_false]
    unfold one
    simp only [if_true, Bool.false_eq_true, if_false]
    omega
/-- One of them, by its place. -/
theorem cd_at (back : Bool) (d : Nat) (hd : 0 < d) (xs : List Nat) (i : Nat) (hi : i < xs.length) : (cd back d xs).getD i 0 = one back (xs.getD i 0) (at_ (if back then cd back d xs else xs) i d) := by
  have hx : xs = xs.take i ++ xs.getD i 0 :: xs.drop (i + 1) := by
    rw [List.getD_eq_getElem?_getD, List.getElem?_eq_getElem hi]
    simp
  have e : xs.take i ++ xs.getD i 0 :: xs.drop (i + 1) = (xs.take i ++ [xs.getD i 0]) ++ xs.drop (i + 1) := by simp
  have hl : (xs.take i).length = i := by simp; omega
  have hcl : (cd back d (xs.take i)).length = i := by rw [cd_len, hl]
  obtain ⟨r, h1, _⟩ := cd_app back d (xs.take i ++ [xs.getD i 0]) (xs.drop (i + 1))
  rw [← e, ← hx] at h1
  rw [cd_snoc, hl] at h1
  have h2 : (cd back d xs).getD i 0 = one back (xs.getD i 0) (at_ (if back then cd back d (xs.take i) else xs.take i) i d) := by
    rw [h1, List.append_assoc, List.getD_eq_getElem?_getD, List.getElem?_append_right (by omega), hcl]
    simp
  rw [h2]
  congr 1
  cases back
  · simp only [Bool.false_eq_true, if_false]
    conv => rhs; rw [hx]
    exact (at_app hd (by omega)).symm
  · simp only [if_true]
    rw [h1, List.append_assoc]
    exact (at_app hd (by omega)).symm
/-- A byte less another. -/
def less (a b : Nat) : Nat := (a + 256 - b) % 256
theorem dif_one (d : Nat) (hd : 0 < d) (b : List Nat) (hb : By b) (at0 z : Nat) (hat : at0 < b.length) (hz : z < 256) (i : Nat) (hi : i < b.length) :
    less ((cd false d (b.set at0 ((b.getD at0 0 + z) % 256))).getD i 0) ((cd false d b).getD i 0) = if i = at0 + d then (256 - z) % 256 else if i = at0 then z else 0 := by
  have hs : ∀ j, (b.set at0 ((b.getD at0 0 + z) % 256)).getD j 0 = if j = at0 then (b.getD at0 0 + z) % 256 else b.getD j 0 := fun j => by
    rw [List.getD_eq_getElem?_getD, List.getD_eq_getElem?_getD (l := b) (i := j), List.getElem?_set]
    by_cases e : at0 = j
    · subst e; simp [hat]
    · rw [if_neg e, if_neg (fun f => e f.symm)]
  rw [cd_at false d hd _ i (by simpa using hi), cd_at false d hd _ i hi]
  simp only [Bool.false_eq_true, if_false]
  unfold one at_ less
  simp only [Bool.false_eq_true, if_false]
  rw [hs, hs]
  have h1 := hb.get i
  have h2 := hb.get (i - d)
  have h3 := hb.get at0
  by_cases e1 : i = at0 + d
  · subst e1
    have e4 : ¬ (at0 + d < d) := by omega
    have e5 : ¬ (at0 + d = at0) := by omega
    simp only [if_neg e4, if_neg e5, if_true, show at0 + d - d = at0 by omega] at h2 ⊢
    omega
  · by_cases e2 : i = at0
    · subst e2
      have e5 : ¬ (i - d = i ∧ ¬ i < d) := by omega
      by_cases e3 : i < d
      · simp only [if_neg e1, if_pos e3, if_true]; omega
      · simp only [if_neg e1, if_neg e3, if_true, if_neg (show ¬ i - d = i by omega)]; omega
    · by_cases e3 : i < d
      · simp only [if_neg e1, if_pos e3, if_neg e2]; omega
      · simp only [if_neg e1, if_neg e3, if_neg e2, if_neg (show ¬ i - d = at0 by omega)]; omega
theorem sum_one (d : Nat) (hd : 0 < d) (b : List Nat) (hb : By b) (at0 z : Nat) (hat : at0 < b.length) (hz : z < 256) (i : Nat) (hi : i < b.length) :
    less ((cd true d (b.set at0 ((b.getD at0 0 + z) % 256))).getD i 0) ((cd true d b).getD i 0) = if at0 ≤ i ∧ (i - at0) % d = 0 then z else 0 := by
  have hs : ∀ j, (b.set at0 ((b.getD at0 0 + z) % 256)).getD j 0 = if j = at0 then (b.getD at0 0 + z) % 256 else b.getD j 0 := fun j => by
    rw [List.getD_eq_getElem?_getD, List.getD_eq_getElem?_getD (l := b) (i := j), List.getElem?_set]
    by_cases e : at0 = j
    · subst e; simp [hat]
    · rw [if_neg e, if_neg (fun f => e f.symm)]
  have key : ∀ n i, i < n → i < b.length → (cd true d (b.set at0 ((b.getD at0 0 + z) % 256))).getD i 0 = ((cd true d b).getD i 0 + if at0 ≤ i ∧ (i - at0) % d = 0 then z else 0) % 256 := by
    intro n
    induction n with
    | zero => intro i h; omega
    | succ n ih =>
      intro i hn hi
      rw [cd_at true d hd _ i (by simpa using hi), cd_at true d hd b i hi]
      simp only [if_true]
      unfold one at_
      simp only [if_true]
      rw [hs]
      have h1 := hb.get i
      have h3 := hb.get at0
      have hc := (cd_by true d b).get (i - d)
      by_cases e3 : i < d
      · by_cases e2 : i = at0
        · subst e2
          simp only [if_pos e3, if_true, Nat.le_refl, Nat.sub_self, Nat.zero_mod, and_self]
          omega
        · have hno : ¬ (at0 ≤ i ∧ (i - at0) % d = 0) := fun h => by
            have h9 := Nat.mod_eq_of_lt (a := i - at0) (b := d) (by omega)
            omega
          simp only [if_pos e3, if_neg e2, if_neg hno]
          omega
      · have hh := ih (i - d) (by omega) (by omega)
        by_cases e2 : i = at0
        · subst e2
          have hno : ¬ (i ≤ i - d ∧ (i - d - i) % d = 0) := by omega
          rw [if_neg hno] at hh
          simp only [if_neg e3, if_true, Nat.le_refl, Nat.sub_self, Nat.zero_mod, and_self, hh]
          omega
        · have hiff : (at0 ≤ i ∧ (i - at0) % d = 0) ↔ (at0 ≤ i - d ∧ (i - d - at0) % d = 0) := by
            constructor
            · rintro ⟨a, c⟩
              by_cases k : at0 ≤ i - d
              · refine ⟨k, ?_⟩
                have : i - at0 = (i - d - at0) + d := by omega
                rw [this, Nat.add_mod_right] at c
                exact c
              · have h9 := Nat.mod_eq_of_lt (a := i - at0) (b := d) (by omega)
                omega
            · rintro ⟨a, c⟩
              refine ⟨by omega, ?_⟩
              have : i - at0 = (i - d - at0) + d := by omega
              rw [this, Nat.add_mod_right]
              exact c
          by_cases hq : at0 ≤ i ∧ (i - at0) % d = 0
          · rw [if_pos (hiff.1 hq)] at hh
            simp only [if_neg e3, if_neg e2, if_pos hq, hh]
            omega
          · rw [if_neg (fun h => hq (hiff.2 h))] at hh
            simp only [if_neg e3, if_neg e2, if_neg hq, hh]
            omega
  rw [key (i + 1) i (by omega) hi]
  have hc := (cd_by true d b).get i
  unfold less
  split <;> omega
/-- Rows that repeat. -/
theorem rows (row : List Nat) (hr : By row) (hd : 0 < row.length) (t : Nat) (i : Nat) (hi : i < t * row.length) :
    (cd false row.length (List.replicate t row).flatten).getD i 0 = if i < row.length then row.getD i 0 else 0 := by
  have hl : (List.replicate t row).flatten.length = t * row.length := by simp
  have hg : ∀ t i, i < t * row.length → (List.replicate t row).flatten.getD i 0 = row.getD (i % row.length) 0 := by
    intro t
    induction t with
    | zero => intro i h; omega
    | succ t ih =>
      intro i h
      rw [List.replicate_succ, List.flatten_cons, List.getD_eq_getElem?_getD]
      by_cases k : i < row.length
      · rw [List.getElem?_append_left k, Nat.mod_eq_of_lt k, List.getD_eq_getElem?_getD]
      · rw [List.getElem?_append_right (by omega), ← List.getD_eq_getElem?_getD, ih (i - row.length) (by rw [Nat.succ_mul] at h; omega)]
        have e : i = (i - row.length) + row.length := by omega
        conv => rhs; rw [e, Nat.add_mod_right]
  rw [cd_at false _ hd _ i (by rw [hl]; exact hi)]
  simp only [Bool.false_eq_true, if_false]
  unfold one at_
  simp only [Bool.false_eq_true, if_false]
  rw [hg t i hi]
  by_cases k : i < row.length
  · rw [if_pos k, if_pos k, Nat.mod_eq_of_lt k]
    have := hr.get i
    omega
  · rw [if_neg k, if_neg k, hg t (i - row.length) (by omega)]
    have e : i % row.length = (i - row.length) % row.length := by
      have e : i = (i - row.length) + row.length := by omega
      conv => lhs; rw [e, Nat.add_mod_right]
    rw [e]
    omega
end De19
