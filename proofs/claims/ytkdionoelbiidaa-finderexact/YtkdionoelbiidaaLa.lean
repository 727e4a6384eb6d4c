/- Mathematics of lists of places that are cut at the front; of no statement by itself. -/
import Derived.Test.YtkdionoelbiidaaPm
namespace Go.Proofs.Ytkdionoelbiidaa
set_option linter.unusedVariables false

/-- The last k of a list. -/
def lastN (k : Nat) (l : List Nat) : List Nat := l.drop (l.length - k)
theorem lastN_len (k : Nat) (l : List Nat) : (lastN k l).length = min k l.length := by simp [lastN]; omega
theorem lastN_all {k : Nat} {l : List Nat} (h : l.length ≤ k) : lastN k l = l := by simp [lastN, show l.length - k = 0 by omega]
theorem lastN_cons {k : Nat} {a : Nat} {l : List Nat} (h : k ≤ l.length) : lastN k (a :: l) = lastN k l := by
  unfold lastN
  rw [List.length_cons, show l.length + 1 - k = (l.length - k) + 1 by omega, List.drop_succ_cons]
theorem lastN_snoc {k : Nat} (x : Nat) : ∀ {l : List Nat}, lastN k (lastN k l ++ [x]) = lastN k (l ++ [x])
  | [] => by simp [lastN]
  | a :: l => by
    by_cases h : (a :: l).length ≤ k
    · rw [lastN_all h]
    · have h2 : k ≤ l.length := by simp at h; omega
      rw [lastN_cons h2, lastN_snoc x, List.cons_append, lastN_cons (by simp; omega)]
theorem filter_all {l : List Nat} {lo a : Nat} (hs : (a :: l).Pairwise (· < ·)) (h : lo ≤ a) : l.filter (fun x => decide (lo ≤ x)) = l := by
  rw [List.filter_eq_self]
  intro x hx
  have := (List.pairwise_cons.1 hs).1 x hx
  simp; omega
theorem lastN_filter {k lo : Nat} : ∀ {l : List Nat}, l.Pairwise (· < ·) → (lastN k l).filter (fun x => decide (lo ≤ x)) = lastN k (l.filter (fun x => decide (lo ≤ x)))
  | [], _ => by simp [lastN]
  | a :: l, hs => by
    by_cases h : (a :: l).length ≤ k
    · rw [lastN_all h, lastN_all (Nat.le_trans (List.length_filter_le _ _) h)]
    · have h2 : k ≤ l.length := by simp at h; omega
      rw [lastN_cons h2, lastN_filter (List.pairwise_cons.1 hs).2]
      by_cases ha : lo ≤ a
      · rw [List.filter_cons, filter_all hs ha]
        simp only [ha, decide_true, if_true]
        rw [lastN_cons h2]
      · rw [List.filter_cons]
        simp [ha]
theorem lastN_mem {k x : Nat} {l : List Nat} (h : x ∈ lastN k l) : x ∈ l := List.mem_of_mem_drop h
theorem lastN_asc {k : Nat} {l : List Nat} (h : l.Pairwise (· < ·)) : (lastN k l).Pairwise (· < ·) := List.Pairwise.sublist (List.drop_sublist _ _) h
/-- What is cut at the front while it lies too far back. -/
def cutLo (lo : Nat) : List Nat → List Nat
  | [] => []
  | a :: l => if a < lo then cutLo lo l else a :: l
theorem cutLo_filter {lo : Nat} : ∀ {l : List Nat}, l.Pairwise (· < ·) → cutLo lo l = l.filter (fun x => decide (lo ≤ x))
  | [], _ => rfl
  | a :: l, hs => by
    unfold cutLo
    by_cases ha : lo ≤ a
    · rw [if_neg (by omega), List.filter_cons, filter_all hs ha]
      simp [ha]
    · rw [if_pos (by omega), List.filter_cons, cutLo_filter (List.pairwise_cons.1 hs).2]
      simp [ha]
section
variable {κ : Type} [DecidableEq κ] {d : List Nat} {key : Nat → κ}
/-- The places from lo on and ahead of p. -/
def win (d : List Nat) (key : Nat → κ) (lo p : Nat) (kl : κ) : List Nat := (plc d key p kl).filter (fun x => decide (lo ≤ x))
theorem win_asc (lo p : Nat) (kl : κ) : (win d key lo p kl).Pairwise (· < ·) := List.Pairwise.filter _ (plc_asc d key p kl)
theorem win_up {lo lo' p : Nat} {kl : κ} (h : lo ≤ lo') : (win d key lo p kl).filter (fun x => decide (lo' ≤ x)) = win d key lo' p kl := by
  unfold win
  rw [List.filter_filter]
  congr 1
  funext x
  by_cases h1 : lo' ≤ x
  · have h2 : lo ≤ x := Nat.le_trans h h1
    simp [h1, h2]
  · simp [h1]
theorem win_none {lo p : Nat} {kl : κ} (h : p ≤ lo) : win d key lo p kl = [] := by
  unfold win
  rw [List.filter_eq_nil_iff]
  intro x hx
  have := (plc_mem hx).1
  simp; omega
theorem win_yes {lo p : Nat} (h : p + 3 ≤ d.length) (hl : lo ≤ p) : win d key lo (p + 1) (key p) = win d key lo p (key p) ++ [p] := by
  unfold win
  rw [plc_yes h rfl, List.filter_append]
  simp [hl]
theorem win_no {lo p : Nat} {kl : κ} (h : ¬ (p + 3 ≤ d.length ∧ key p = kl)) : win d key lo (p + 1) kl = win d key lo p kl := by
  unfold win
  rw [plc_no h]
/-- What the lists T hold at p, of places from lo on. -/
def Tok (d : List Nat) (key : Nat → κ) (lo p : Nat) (T : κ → List Nat) : Prop := ∀ kl, (T kl).Pairwise (· < ·) ∧ (∀ x ∈ T kl, x < p) ∧ (T kl).length ≤ 32 ∧ (T kl).filter (fun x => decide (lo ≤ x)) = lastN 32 (win d key lo p kl)
variable {lo lo' p : Nat} {T : κ → List Nat}
theorem Tok.nil : Tok d key lo 0 (fun _ => []) := fun kl => ⟨List.Pairwise.nil, (fun x hx => nomatch hx), Nat.zero_le _, by rw [win_none (Nat.zero_le _)]; rfl⟩
theorem Tok.up (h : Tok d key lo p T) (hl : lo ≤ lo') : Tok d key lo' p T := fun kl => by
  obtain ⟨h1, h2, h3, h4⟩ := h kl
  refine ⟨h1, h2, h3, ?_⟩
  have e := congrArg (fun l => l.filter (fun x => decide (lo' ≤ x))) h4
  simp only [List.filter_filter] at e
  have e2 : (T kl).filter (fun x => decide (lo' ≤ x)) = (T kl).filter (fun a => decide (lo' ≤ a) && decide (lo ≤ a)) := by
    congr 1
    funext x
    by_cases g1 : lo' ≤ x
    · have g2 : lo ≤ x := Nat.le_trans hl g1
      simp [g1, g2]
    · simp [g1]
  rw [e2, e, lastN_filter (win_asc _ _ _), win_up hl]
theorem Tok.jump (h : Tok d key lo p T) (hl : p ≤ lo') : Tok d key lo' lo' T := fun kl => by
  obtain ⟨h1, h2, h3, h4⟩ := h kl
  refine ⟨h1, fun x hx => Nat.lt_of_lt_of_le (h2 x hx) hl, h3, ?_⟩
  rw [win_none (Nat.le_refl _)]
  rw [show lastN 32 ([] : List Nat) = [] from rfl, List.filter_eq_nil_iff]
  intro x hx
  have := h2 x hx
  simp; omega
/-- From p to q. -/
theorem Tok.go (h : Tok d key lo p T) (hl : lo ≤ lo') : Tok d key lo' (max p lo') T := by
  by_cases e : p ≤ lo'
  · rw [show max p lo' = lo' by omega]; exact h.jump e
  · rw [show max p lo' = p by omega]; exact h.up hl
open Classical in
noncomputable def putN (T : κ → List Nat) (kl : κ) (xs : List Nat) : κ → List Nat := fun x => if x = kl then xs else T x
theorem Tok.over (h : Tok d key lo p T) (hp : ¬ p + 3 ≤ d.length) : Tok d key lo (p + 1) T := fun kl => by
  obtain ⟨h1, h2, h3, h4⟩ := h kl
  exact ⟨h1, fun x hx => by have := h2 x hx; omega, h3, by rw [win_no (fun f => hp f.1)]; exact h4⟩
theorem Tok.put (h : Tok d key lo p T) (hp : p + 3 ≤ d.length) (hl : lo ≤ p) : Tok d key lo (p + 1) (putN T (key p) (lastN 32 (T (key p) ++ [p]))) := fun kl => by
  by_cases e : kl = key p
  · subst e
    obtain ⟨h1, h2, h3, h4⟩ := h (key p)
    have hs : (T (key p) ++ [p]).Pairwise (· < ·) := by
      rw [List.pairwise_append]
      exact ⟨h1, by simp, fun a ha b hb => by simp at hb; subst hb; exact h2 a ha⟩
    have hput : putN T (key p) (lastN 32 (T (key p) ++ [p])) (key p) = lastN 32 (T (key p) ++ [p]) := by simp [putN]
    rw [hput]
    refine ⟨lastN_asc hs, fun x hx => ?_, by rw [lastN_len]; omega, ?_⟩
    · have := lastN_mem hx
      rcases List.mem_append.1 this with g | g
      · have := h2 x g; omega
      · simp at g; omega
    · rw [lastN_filter hs, List.filter_append, h4, win_yes hp hl]
      simp only [List.filter_cons, List.filter_nil, hl, decide_true, if_true]
      rw [lastN_snoc]
  · obtain ⟨h1, h2, h3, h4⟩ := h kl
    have hput : putN T (key p) (lastN 32 (T (key p) ++ [p])) kl = T kl := by simp [putN, e]
    rw [hput]
    exact ⟨h1, fun x hx => by have := h2 x hx; omega, h3, by rw [win_no (fun f => e f.2.symm)]; exact h4⟩
/-- The candidates at p. -/
theorem Tok.cut (h : Tok d key lo p T) (kl : κ) : cutLo lo (T kl) = lastN 32 (win d key lo p kl) := by
  obtain ⟨h1, _, _, h4⟩ := h kl
  rw [cutLo_filter h1, h4]
theorem cand_win {dict : Nat} (hp : p + 3 ≤ d.length) (hk : ∀ q, q < p → (key q = key p ↔ runN d p q 3 = 3)) : cand d dict p = (lastN 32 (win d key (p - dict) p (key p))).reverse.map (p - ·) := by
  unfold cand
  rw [scan_plc hp hk]
  have e : (dst d key p (key p)).filter (fun t => decide (t ≤ dict)) = (win d key (p - dict) p (key p)).reverse.map (p - ·) := by
    unfold dst win
    rw [List.filter_map, ← List.filter_reverse]
    congr 1
    apply List.filter_congr
    intro x hx
    have := (plc_mem (List.mem_reverse.1 hx)).1
    simp only [Function.comp]
    by_cases h1 : p - x ≤ dict
    · have : p - dict ≤ x := by omega
      simp [h1, this]
    · have : ¬ p - dict ≤ x := by omega
      simp [h1, this]
  rw [e, ← List.map_take, List.take_reverse]
  rfl
end
theorem filterMap_map {α β : Type} {f : α → Option β} {g : α → β} : ∀ {l : List α}, (∀ t ∈ l, f t = some (g t)) → l.filterMap f = l.map g
  | [], _ => rfl
  | a :: l, h => by
    rw [List.filterMap_cons, h a (by simp), List.map_cons, filterMap_map (fun t ht => h t (by simp [ht]))]
/-- What is found at the candidates: from three bytes on each is a match. -/
theorem mat_map {d : List Nat} {dict p : Nat} {most : Int} (h3 : 3 ≤ bnd most) : mat d dict p most = (cand d dict p).map (fun t => (runN d p (p - t) (bnd most), t)) := by
  unfold mat
  refine filterMap_map (fun t ht => ?_)
  have h2 := (cand_mem ht).2.2.2
  unfold matAt
  rw [if_pos]
  have := runN_min d p (p - t) h3
  omega
theorem mat_few {d : List Nat} {dict p : Nat} {most : Int} (h3 : ¬ 3 ≤ bnd most) : mat d dict p most = [] := by
  unfold mat
  rw [List.filterMap_eq_nil_iff]
  intro t ht
  unfold matAt
  rw [if_neg]
  have := runN_le d p (p - t) (bnd most)
  omega
/-- How long a match can be. -/
def rch (d : List Nat) (p : Nat) (most : Int) : Nat := min (bnd most) (d.length - p)
theorem runN_rch (d : List Nat) (p q : Nat) (most : Int) : runN d p q (rch d p most) = runN d p q (bnd most) := by
  have h1 := runN_min d p q (m := rch d p most) (m' := bnd most) (by unfold rch; omega)
  have h2 := runN_left d p q (bnd most)
  have h3 := runN_le d p q (bnd most)
  unfold rch at h1 ⊢
  omega
theorem mat_rch {d : List Nat} {dict p : Nat} {most : Int} {m : Nat × Nat} (h : m ∈ mat d dict p most) : m.1 ≤ rch d p most := by
  have h1 := (mat_mem h).2.2.1
  rw [h1, ← runN_rch]
  exact runN_le _ _ _ _
theorem mat_none {d : List Nat} {dict p : Nat} {most : Int} (h : rch d p most < 3) : mat d dict p most = [] := by
  rw [List.eq_nil_iff_forall_not_mem]
  intro m hm
  have h1 := mat_rch hm
  have h2 := (mat_mem hm).1
  omega
theorem rch_int {d : List Nat} {p : Nat} {most : Int} (h : 3 ≤ rch d p most) : min (min most 273) ((d.length - p : Nat) : Int) = ((rch d p most : Nat) : Int) := by
  unfold rch bnd at h ⊢
  omega
theorem rch_few {d : List Nat} {p : Nat} {most : Int} (h : ¬ 3 ≤ rch d p most) : min (min most 273) ((d.length - p : Nat) : Int) < 3 := by
  unfold rch bnd at h
  omega
/-- The matches: the candidates, the nearest first. -/
theorem mat_win {κ : Type} [DecidableEq κ] {d : List Nat} {key : Nat → κ} {dict p : Nat} {most : Int} (h3 : 3 ≤ rch d p most) (hk : ∀ q, q < p → (key q = key p ↔ runN d p q 3 = 3)) : mat d dict p most = (lastN 32 (win d key (p - dict) p (key p))).reverse.map (fun q => (runN d p q (rch d p most), p - q)) := by
  have hb : 3 ≤ bnd most ∧ p + 3 ≤ d.length := by unfold rch at h3; omega
  rw [mat_map hb.1, cand_win hb.2 hk, List.map_map]
  apply List.map_congr_left
  intro q hq
  have hq2 := (plc_mem (List.mem_filter.1 (lastN_mem (List.mem_reverse.1 hq))).1).1
  simp only [Function.comp, runN_rch]
  rw [show p - (p - q) = q by omega]
/-- Nothing longer comes behind what can't be longer. -/
theorem best_fold_top {r : Nat} : ∀ {l : List (Nat × Nat)} {b : Nat × Nat}, (∀ m ∈ l, m.1 ≤ r) → b.1 = r → l.foldl (fun b m => if b.1 < m.1 then m else b) b = b
  | [], b, _, _ => rfl
  | m :: l, b, h, hb => by
    have := h m (by simp)
    rw [List.foldl_cons, if_neg (by omega)]
    exact best_fold_top (fun x hx => h x (by simp [hx])) hb
theorem best_top {l : List (Nat × Nat)} {k r : Nat} (h : ∀ m ∈ l, m.1 ≤ r) (hk : (bestM (l.take k)).1 = r) : bestM l = bestM (l.take k) := by
  have e : bestM l = (l.drop k).foldl (fun b m => if b.1 < m.1 then m else b) (bestM (l.take k)) := by
    unfold bestM
    rw [← List.foldl_append, List.take_append_drop]
  rw [e]
  exact best_fold_top (fun m hm => h m (List.mem_of_mem_drop hm)) hk
end Go.Proofs.Ytkdionoelbiidaa
