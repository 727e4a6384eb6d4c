/- Pairs in order, as lists: what a heap is; of no statement by itself. -/
namespace Hp16
/-- A price and a place. -/
abbrev Pr := Int × Int
def le (a b : Pr) : Prop := a.1 < b.1 ∨ a.1 = b.1 ∧ a.2 ≤ b.2
instance (a b : Pr) : Decidable (le a b) := by unfold le; exact inferInstance
theorem le_refl (a : Pr) : le a a := .inr ⟨rfl, Int.le_refl _⟩
theorem le_total (a b : Pr) : le a b ∨ le b a := by unfold le; omega
theorem le_trans {a b c : Pr} (h : le a b) (k : le b c) : le a c := by unfold le at *; omega
theorem le_antisymm {a b : Pr} (h : le a b) (k : le b a) : a = b := by
  unfold le at *
  exact Prod.ext (by omega) (by omega)
/-- In order. -/
def Srt (l : List Pr) : Prop := l.Pairwise le
/-- A pair laid into an ordered list. -/
def ins (x : Pr) : List Pr → List Pr
  | [] => [x]
  | y :: t => if le x y then x :: y :: t else y :: ins x t
theorem ins_perm (x : Pr) : ∀ l, (ins x l).Perm (x :: l)
  | [] => List.Perm.refl _
  | y :: t => by
    unfold ins
    split
    · exact List.Perm.refl _
    · exact ((ins_perm x t).cons y).trans (List.Perm.swap x y t)
theorem ins_len (x : Pr) (l : List Pr) : (ins x l).length = l.length + 1 := by
  have := (ins_perm x l).length_eq
  simpa using this
theorem ins_srt (x : Pr) : ∀ l, Srt l → Srt (ins x l)
  | [], _ => by unfold ins Srt; simp
  | y :: t, h => by
    unfold Srt at h
    rw [List.pairwise_cons] at h
    unfold ins
    split
    · next hx =>
      unfold Srt
      rw [List.pairwise_cons]
      refine ⟨fun z hz => ?_, List.pairwise_cons.2 h⟩
      rcases List.mem_cons.1 hz with rfl | hz
      · exact hx
      · exact le_trans hx (h.1 z hz)
    · next hx =>
      unfold Srt
      rw [List.pairwise_cons]
      refine ⟨fun z hz => ?_, ins_srt x t h.2⟩
      rcases List.mem_cons.1 ((ins_perm x t).mem_iff.1 hz) with rfl | hz
      · rcases le_total z y with k | k
        · exact absurd k hx
        · exact k
      · exact h.1 z hz
/-- Two ordered lists of the same pairs are one. -/
theorem srt_unique : ∀ {l m : List Pr}, Srt l → Srt m → l.Perm m → l = m
  | [], m, _, _, p => (List.Perm.nil_eq p)
  | x :: t, [], _, _, p => absurd p.length_eq (by simp)
  | x :: t, y :: u, h, k, p => by
    unfold Srt at h k
    rw [List.pairwise_cons] at h k
    have e : x = y := by
      have hx : x ∈ y :: u := p.mem_iff.1 List.mem_cons_self
      have hy : y ∈ x :: t := p.mem_iff.2 List.mem_cons_self
      rcases List.mem_cons.1 hx with e | hx
      · exact e
      · rcases List.mem_cons.1 hy with e | hy
        · exact e.symm
        · exact le_antisymm (h.1 y hy) (k.1 x hx)
    subst e
    rw [srt_unique h.2 k.2 (List.Perm.cons_inv p)]
/-- The head is a least one. -/
theorem head_le {x : Pr} {t : List Pr} (h : Srt (x :: t)) {l : List Pr} (p : l.Perm (x :: t)) : ∀ y ∈ l, le x y := fun y hy => by
  unfold Srt at h
  rw [List.pairwise_cons] at h
  rcases List.mem_cons.1 (p.mem_iff.1 hy) with rfl | hy
  · exact le_refl _
  · exact h.1 y hy
/-- A least one that is taken out. -/
theorem take_least {x : Pr} {t l : List Pr} (h : Srt (x :: t)) (p : l.Perm (x :: t)) (k : Nat) (y : Pr) (hk : l[k]? = some y) (hl : ∀ z ∈ l, le y z) : y = x ∧ (l.take k ++ l.drop (k + 1)).Perm t := by
  obtain ⟨hlt, e⟩ := List.getElem?_eq_some_iff.1 hk
  have hy : y ∈ l := e ▸ List.getElem_mem hlt
  have ex : y = x := le_antisymm (hl x (p.mem_iff.2 List.mem_cons_self)) (head_le h p y hy)
  refine ⟨ex, ?_⟩
  have hl2 : l = l.take k ++ y :: l.drop (k + 1) := by
    rw [← e, List.getElem_cons_drop hlt, List.take_append_drop]
  have p2 : (y :: (l.take k ++ l.drop (k + 1))).Perm (x :: t) := by
    refine List.Perm.trans ?_ p
    conv => rhs; rw [hl2]
    exact List.perm_middle.symm
  rw [ex] at p2
  exact List.Perm.cons_inv p2
/-- Those that are not used yet. -/
def un : List Bool → List Pr → List Pr
  | u :: us, p :: ps => if u then un us ps else p :: un us ps
  | _, _ => []
theorem un_all : ∀ (ps : List Pr), un (List.replicate ps.length false) ps = ps
  | [] => rfl
  | p :: ps => by
    rw [List.length_cons, List.replicate_succ]
    unfold un
    rw [un_all ps]
    simp
theorem un_set : ∀ (us : List Bool) (ps : List Pr) (i : Nat) (p : Pr), us[i]? = some false → ps[i]? = some p → (un us ps).Perm (p :: un (us.set i true) ps)
  | [], _, _, _, h, _ => by simp at h
  | _ :: _, [], _, _, _, h => by simp at h
  | u :: us, q :: ps, 0, p, h, k => by
    simp at h k
    subst h k
    simp [un]
  | u :: us, q :: ps, i + 1, p, h, k => by
    have ih := un_set us ps i p (by simpa using h) (by simpa using k)
    rw [List.set_cons_succ]
    unfold un
    split
    · exact ih
    · exact (ih.cons q).trans (List.Perm.swap p q _)
theorem un_mem : ∀ (us : List Bool) (ps : List Pr) (i : Nat) (p : Pr), us[i]? = some false → ps[i]? = some p → p ∈ un us ps := fun us ps i p h k =>
  (un_set us ps i p h k).mem_iff.2 List.mem_cons_self
theorem un_find : ∀ (us : List Bool) (ps : List Pr) (p : Pr), p ∈ un us ps → ∃ i : Nat, us[i]? = some false ∧ ps[i]? = some p
  | [], _, _, h => by simp [un] at h
  | _ :: _, [], _, h => by simp [un] at h
  | u :: us, q :: ps, p, h => by
    unfold un at h
    split at h
    · obtain ⟨i, a, b⟩ := un_find us ps p h
      exact ⟨i + 1, by simpa using a, by simpa using b⟩
    · next hu =>
      rcases List.mem_cons.1 h with rfl | h
      · exact ⟨0, by simpa using hu, rfl⟩
      · obtain ⟨i, a, b⟩ := un_find us ps p h
        exact ⟨i + 1, by simpa using a, by simpa using b⟩
end Hp16
