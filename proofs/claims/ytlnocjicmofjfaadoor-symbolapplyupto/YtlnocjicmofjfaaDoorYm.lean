/- Mathematics of rows of symbols; of no statement by itself. -/
import Derived.Test.YtlnocjicmofjfaaDoorBoundB
import Derived.Test.YtlnocjicmofjfaaDoorWm
namespace Go.Proofs.YtlnocjicmofjfaaDoor
set_option linter.unusedVariables false
open St12
namespace Sy13
def rep4 (s : Stt) (i : Int) : Int := if i = 1 then s.b else if i = 2 then s.c else if i = 3 then s.d else s.a
/-- The distance of a symbol behind a state; its length; what Size answers. -/
def distS (s : Stt) (y : Sym) : Int := if y.k = 2 then y.d else if y.k = 3 then rep4 s y.d else s.a
def sizeA (y : Sym) : Int := if formed y ≠ 0 then 0 else if y.k = 2 ∨ y.k = 3 then y.l else 1
def inwD (n : Nat) (bs : List Nat) (d : Int) : Prop := 0 < d ∧ d ≤ ((fullN n bs : Nat) : Int)
instance (n : Nat) (bs : List Nat) (d : Int) : Decidable (inwD n bs d) := by unfold inwD; exact inferInstance
/-- What Apply answers: the bytes, the state, the error. -/
def app (n : Nat) (bs : List Nat) (s : Stt) (y : Sym) : List Nat × Stt × Int :=
  if (nxt s y).2 ≠ 0 then ([], zero, (nxt s y).2)
  else if y.k = 1 then ([y.y.toNat], (nxt s y).1, 0)
  else if inwD n bs (distS s y) then (copyL (distS s y).toNat bs (sizeA y).toNat, (nxt s y).1, 0)
  else ([], zero, 7)
theorem nxt_err {s : Stt} {y : Sym} (h : (nxt s y).2 = 0) : right s ∧ formed y = 0 := by
  unfold nxt at h
  split at h
  · simp at h
  · next h1 =>
    split at h
    · next h2 => exact absurd h h2
    · next h2 => exact ⟨Decidable.of_not_not h1, Decidable.of_not_not h2⟩
theorem nxt_ok {s : Stt} {y : Sym} (h : right s) (hf : formed y = 0) : (nxt s y).2 = 0 := (nxt_right h hf).1
theorem app_refused {n : Nat} {bs : List Nat} {s : Stt} {y : Sym} (h : (app n bs s y).2.2 ≠ 0) : (app n bs s y).1 = [] ∧ (app n bs s y).2.1 = zero := by
  unfold app at h ⊢
  split
  · exact ⟨rfl, rfl⟩
  · next h1 =>
    rw [if_neg h1] at h
    split
    · next h2 => rw [if_pos h2] at h; exact absurd rfl h
    · next h2 =>
      rw [if_neg h2] at h
      split
      · next h3 => rw [if_pos h3] at h; exact absurd rfl h
      · exact ⟨rfl, rfl⟩
theorem app_next {n : Nat} {bs : List Nat} {s : Stt} {y : Sym} (h : (app n bs s y).2.2 = 0) : (nxt s y).2 = 0 ∧ (app n bs s y).2.1 = (nxt s y).1 := by
  unfold app at h ⊢
  split
  · next h1 => rw [if_pos h1] at h; exact absurd h h1
  · next h1 =>
    refine ⟨Decidable.of_not_not h1, ?_⟩
    rw [if_neg h1] at h
    split
    · rfl
    · next h2 =>
      rw [if_neg h2] at h
      split
      · rfl
      · next h3 => rw [if_neg h3] at h; simp at h
theorem app_right {n : Nat} {bs : List Nat} {s : Stt} {y : Sym} (h : (app n bs s y).2.2 = 0) : right (app n bs s y).2.1 := by
  obtain ⟨h1, h2⟩ := app_next h
  obtain ⟨h3, h4⟩ := nxt_err h1
  rw [h2]
  exact (nxt_right h3 h4).2
theorem sizeA_in {y : Sym} (hf : formed y = 0) : 1 ≤ sizeA y ∧ sizeA y ≤ 273 := by
  have hk := formed_kind hf
  unfold sizeA
  rw [if_neg (by simp [hf])]
  split
  · omega
  · omega
theorem sizeA_le (y : Sym) : 0 ≤ sizeA y ∧ sizeA y ≤ 273 := by
  by_cases hf : formed y = 0
  · have := sizeA_in hf; omega
  · unfold sizeA; rw [if_pos hf]; omega
theorem app_len {n : Nat} {bs : List Nat} {s : Stt} {y : Sym} (h : (app n bs s y).2.2 = 0) : (app n bs s y).1.length = (sizeA y).toNat ∧ 1 ≤ (sizeA y).toNat := by
  obtain ⟨h3, h4⟩ := nxt_err (app_next h).1
  have hs := sizeA_in h4
  unfold app at h ⊢
  rw [if_neg (by simp [nxt_ok h3 h4])] at h ⊢
  split
  · next h2 =>
    have : sizeA y = 1 := by unfold sizeA; rw [if_neg (by simp [h4]), if_neg (by omega)]
    rw [this]
    exact ⟨rfl, by decide⟩
  · next h2 =>
    rw [if_neg h2] at h
    split
    · exact ⟨copyL_len _ _ _, by omega⟩
    · next h3 => rw [if_neg h3] at h; simp at h
theorem app_len_le (n : Nat) (bs : List Nat) (s : Stt) (y : Sym) : (app n bs s y).1.length ≤ 273 := by
  by_cases h : (app n bs s y).2.2 = 0
  · rw [(app_len h).1]
    have := sizeA_le y
    omega
  · rw [(app_refused h).1]; simp
theorem app_err (n : Nat) (bs : List Nat) (s : Stt) (y : Sym) : (app n bs s y).2.2 = 0 ∨ (app n bs s y).2.2 = 6 ∨ (app n bs s y).2.2 = 7 := by
  have hn : (nxt s y).2 = 0 ∨ (nxt s y).2 = 6 ∨ (nxt s y).2 = 7 := by
    unfold nxt
    split
    · exact .inr (.inr rfl)
    · split
      · exact formed_vals y
      · exact .inl rfl
  unfold app
  split
  · exact hn
  · split
    · exact .inl rfl
    · split
      · exact .inl rfl
      · exact .inr (.inr rfl)
/-- A row, from some bytes and a state on: all its symbols are taken. -/
def runA (n : Nat) : List Nat → Stt → List Sym → Option (List Nat × Stt)
  | bs, s, [] => some (bs, s)
  | bs, s, y :: l => if (app n bs s y).2.2 = 0 then runA n (bs ++ (app n bs s y).1) (app n bs s y).2.1 l else none
/-- What Expand answers from there on. -/
def exp (n : Nat) : List Nat → Stt → Nat → List Sym → List Nat × Nat × Int
  | bs, s, i, [] => (bs, i, 0)
  | bs, s, i, y :: l => if (app n bs s y).2.2 = 0 then exp n (bs ++ (app n bs s y).1) (app n bs s y).2.1 (i + 1) l else ([], i, (app n bs s y).2.2)
def expandA (dict : Int) (l : List Sym) : List Nat × Nat × Int := if dict < 1 ∨ 4294967295 < dict then ([], 0, 7) else exp dict.toNat [] st0 0 l
theorem run_append {n : Nat} : ∀ {row : List Sym} {bs : List Nat} {s : Stt} {bs' : List Nat} {s' : Stt} (l : List Sym), runA n bs s row = some (bs', s') → runA n bs s (row ++ l) = runA n bs' s' l
  | [], bs, s, bs', s', l, h => by
    simp only [runA, Option.some.injEq, Prod.mk.injEq] at h
    obtain ⟨rfl, rfl⟩ := h
    rfl
  | y :: row, bs, s, bs', s', l, h => by
    simp only [runA] at h
    split at h
    · next h1 =>
      rw [List.cons_append]
      simp only [runA]
      rw [if_pos h1]
      exact run_append l h
    · simp at h
theorem exp_append {n : Nat} : ∀ {row : List Sym} {bs : List Nat} {s : Stt} {bs' : List Nat} {s' : Stt} (l : List Sym) (i : Nat), runA n bs s row = some (bs', s') → exp n bs s i (row ++ l) = exp n bs' s' (i + row.length) l
  | [], bs, s, bs', s', l, i, h => by
    simp only [runA, Option.some.injEq, Prod.mk.injEq] at h
    obtain ⟨rfl, rfl⟩ := h
    rfl
  | y :: row, bs, s, bs', s', l, i, h => by
    simp only [runA] at h
    split at h
    · next h1 =>
      rw [List.cons_append]
      simp only [exp]
      rw [if_pos h1, exp_append l (i + 1) h, List.length_cons]
      congr 1
      omega
    · simp at h
theorem exp_run {n : Nat} {row : List Sym} {bs : List Nat} {s : Stt} {bs' : List Nat} {s' : Stt} (i : Nat) (h : runA n bs s row = some (bs', s')) : exp n bs s i row = (bs', i + row.length, 0) := by
  have := exp_append [] i h
  rw [List.append_nil] at this
  exact this
theorem run_snoc {n : Nat} {row : List Sym} {bs : List Nat} {s : Stt} {bs' : List Nat} {s' : Stt} {y : Sym} (h : runA n bs s row = some (bs', s')) (hy : (app n bs' s' y).2.2 = 0) : runA n bs s (row ++ [y]) = some (bs' ++ (app n bs' s' y).1, (app n bs' s' y).2.1) := by
  rw [run_append [y] h]
  simp only [runA]
  rw [if_pos hy]
theorem run_right {n : Nat} : ∀ {row : List Sym} {bs : List Nat} {s : Stt} {bs' : List Nat} {s' : Stt}, runA n bs s row = some (bs', s') → right s → right s'
  | [], bs, s, bs', s', h, hr => by
    simp only [runA, Option.some.injEq, Prod.mk.injEq] at h
    obtain ⟨rfl, rfl⟩ := h
    exact hr
  | y :: row, bs, s, bs', s', h, hr => by
    simp only [runA] at h
    split at h
    · next h1 => exact run_right h (app_right h1)
    · simp at h
/-- The sizes of a row's symbols, together. -/
def sumS : List Sym → Nat
  | [] => 0
  | y :: l => (sizeA y).toNat + sumS l
theorem sumS_append : ∀ a b : List Sym, sumS (a ++ b) = sumS a + sumS b
  | [], b => by simp [sumS]
  | y :: a, b => by rw [List.cons_append]; simp only [sumS]; rw [sumS_append a b]; omega
theorem run_len {n : Nat} : ∀ {row : List Sym} {bs : List Nat} {s : Stt} {bs' : List Nat} {s' : Stt}, runA n bs s row = some (bs', s') → bs'.length = bs.length + sumS row ∧ ∃ t, bs' = bs ++ t
  | [], bs, s, bs', s', h => by
    simp only [runA, Option.some.injEq, Prod.mk.injEq] at h
    obtain ⟨rfl, rfl⟩ := h
    exact ⟨by simp [sumS], [], by simp⟩
  | y :: row, bs, s, bs', s', h => by
    simp only [runA] at h
    split at h
    · next h1 =>
      obtain ⟨h2, t, h3⟩ := run_len h
      refine ⟨?_, (app n bs s y).1 ++ t, by rw [h3, List.append_assoc]⟩
      rw [h2, List.length_append, (app_len h1).1]
      simp only [sumS]
      omega
    · simp at h
theorem run_split {n : Nat} : ∀ {row : List Sym} (k : Nat) {bs : List Nat} {s : Stt} {bs' : List Nat} {s' : Stt}, runA n bs s row = some (bs', s') → ∃ bk sk, runA n bs s (row.take k) = some (bk, sk) ∧ runA n bk sk (row.drop k) = some (bs', s')
  | row, 0, bs, s, bs', s', h => ⟨bs, s, rfl, h⟩
  | [], k + 1, bs, s, bs', s', h => ⟨bs, s, rfl, h⟩
  | y :: row, k + 1, bs, s, bs', s', h => by
    simp only [runA] at h
    split at h
    · next h1 =>
      obtain ⟨bk, sk, h2, h3⟩ := run_split k h
      refine ⟨bk, sk, ?_, h3⟩
      rw [List.take_succ_cons]
      simp only [runA]
      rw [if_pos h1]
      exact h2
    · simp at h
theorem full_mono {n m : Nat} (h : n ≤ m) (bs : List Nat) : fullN n bs ≤ fullN m bs := by unfold fullN; omega
/-- A greater dictionary. -/
theorem app_greater {n m : Nat} (h : n ≤ m) {bs : List Nat} {s : Stt} {y : Sym} (ha : (app n bs s y).2.2 = 0) : app m bs s y = app n bs s y := by
  unfold app at ha ⊢
  split
  · rfl
  · next h1 =>
    rw [if_neg h1] at ha
    split
    · rfl
    · next h2 =>
      rw [if_neg h2] at ha
      by_cases h3 : inwD n bs (distS s y)
      · have := full_mono h bs
        rw [if_pos h3, if_pos ⟨h3.1, by have := h3.2; omega⟩]
      · rw [if_neg h3] at ha; simp at ha
theorem run_greater {n m : Nat} (h : n ≤ m) : ∀ {row : List Sym} {bs : List Nat} {s : Stt} {bs' : List Nat} {s' : Stt}, runA n bs s row = some (bs', s') → runA m bs s row = some (bs', s')
  | [], bs, s, bs', s', hr => hr
  | y :: row, bs, s, bs', s', hr => by
    simp only [runA] at hr ⊢
    split at hr
    · next h1 =>
      rw [app_greater h h1, if_pos h1]
      exact run_greater h hr
    · simp at hr
/-- Literals. -/
def litY (b : Nat) : Sym := ⟨1, (b : Int), 0, 0⟩
theorem formed_lit (k : Int) (b l d : Int) (h : k = 1) : formed ⟨k, b, l, d⟩ = 0 := by subst h; unfold formed; simp
theorem app_lit {n : Nat} {bs : List Nat} {s : Stt} (h : right s) (b l d : Int) : (app n bs s ⟨1, b, l, d⟩).1 = [b.toNat] ∧ (app n bs s ⟨1, b, l, d⟩).2.2 = 0 := by
  have := nxt_ok h (formed_lit 1 b l d rfl)
  unfold app
  rw [if_neg (by simp [this]), if_pos rfl]
  exact ⟨rfl, rfl⟩
theorem run_lits (n : Nat) : ∀ (xs : List Nat) (bs : List Nat) (s : Stt), right s → ∃ s', runA n bs s (xs.map litY) = some (bs ++ xs, s') ∧ right s'
  | [], bs, s, h => ⟨s, by simp [runA], h⟩
  | x :: xs, bs, s, h => by
    have ha := app_lit (n := n) (bs := bs) h (x : Int) 0 0
    obtain ⟨s', h1, h2⟩ := run_lits n xs (bs ++ [x]) (app n bs s (litY x)).2.1 (app_right ha.2)
    refine ⟨s', ?_, h2⟩
    rw [List.map_cons]
    simp only [runA]
    rw [if_pos (show (app n bs s (litY x)).2.2 = 0 from ha.2), show (app n bs s (litY x)).1 = [x] from by rw [litY, ha.1]; simp, h1]
    simp
/-- A match, from its distance. -/
theorem app_match {n : Nat} {bs : List Nat} {s : Stt} (h : right s) (b l d : Int) (hl : 2 ≤ l ∧ l ≤ 273) (hd : 1 ≤ d ∧ d ≤ 4294967295) : app n bs s ⟨2, b, l, d⟩ = if inwD n bs d then (copyL d.toNat bs l.toNat, (nxt s ⟨2, b, l, d⟩).1, 0) else ([], zero, 7) := by
  have hf : formed ⟨2, b, l, d⟩ = 0 := by unfold formed; simp [hl, hd]
  have := nxt_ok h hf
  have e : sizeA ⟨2, b, l, d⟩ = l := by unfold sizeA; rw [if_neg (by simp [hf])]; rfl
  unfold app
  rw [if_neg (by simp [this]), if_neg (show ¬ (2 : Int) = 1 by decide), e]
  rfl
theorem rep_right {s : Stt} (h : right s) (i : Int) : 1 ≤ rep4 s i ∧ rep4 s i ≤ 4294967295 := by
  obtain ⟨_, ha, hb, hc, hd⟩ := h
  unfold rep4
  split
  · exact hb
  · split
    · exact hc
    · split
      · exact hd
      · exact ha
/-- The same by another name: behind any right state the plain symbol makes the same bytes. -/
def plainY (s : Stt) (y : Sym) (b : Nat) : Sym := if y.k = 3 then ⟨2, 0, y.l, rep4 s y.d⟩ else if y.k = 4 then litY b else y
theorem app_plain {n : Nat} {bs : List Nat} {s t : Stt} {y : Sym} (ht : right t) (h : (app n bs s y).2.2 = 0) {b : Nat} (hb : (app n bs s y).1[0]? = some b) : (app n bs t (plainY s y b)).1 = (app n bs s y).1 ∧ (app n bs t (plainY s y b)).2.2 = 0 := by
  obtain ⟨hs, hf⟩ := nxt_err (app_next h).1
  have hk := formed_kind hf
  obtain ⟨k, yb, yl, yd⟩ := y
  simp only at hk
  rcases hk with rfl | ⟨rfl, h1, h2, h3, h4⟩ | ⟨rfl, h1, h2, h3, h4⟩ | rfl
  · show (app n bs t ⟨1, yb, yl, yd⟩).1 = _ ∧ (app n bs t ⟨1, yb, yl, yd⟩).2.2 = 0
    rw [(app_lit ht yb yl yd).1, (app_lit hs yb yl yd).1]
    exact ⟨rfl, (app_lit ht yb yl yd).2⟩
  · show (app n bs t ⟨2, yb, yl, yd⟩).1 = _ ∧ (app n bs t ⟨2, yb, yl, yd⟩).2.2 = 0
    rw [app_match hs yb yl yd ⟨h1, h2⟩ ⟨h3, h4⟩] at h ⊢
    rw [app_match ht yb yl yd ⟨h1, h2⟩ ⟨h3, h4⟩]
    by_cases hi : inwD n bs yd
    · rw [if_pos hi, if_pos hi]; exact ⟨rfl, rfl⟩
    · rw [if_neg hi] at h; simp at h
  · have hr := rep_right hs yd
    show (app n bs t ⟨2, 0, yl, rep4 s yd⟩).1 = _ ∧ (app n bs t ⟨2, 0, yl, rep4 s yd⟩).2.2 = 0
    rw [app_match ht 0 yl (rep4 s yd) ⟨h1, h2⟩ hr]
    have e : app n bs s ⟨3, yb, yl, yd⟩ = if inwD n bs (rep4 s yd) then (copyL (rep4 s yd).toNat bs yl.toNat, (nxt s ⟨3, yb, yl, yd⟩).1, 0) else ([], zero, 7) := by
      have e2 : sizeA ⟨3, yb, yl, yd⟩ = yl := by unfold sizeA; rw [if_neg (by simp [hf])]; rfl
      unfold app
      rw [if_neg (by simp [nxt_ok hs hf]), if_neg (show ¬ (3 : Int) = 1 by decide), e2]
      rfl
    rw [e] at h ⊢
    by_cases hi : inwD n bs (rep4 s yd)
    · rw [if_pos hi, if_pos hi]; exact ⟨rfl, rfl⟩
    · rw [if_neg hi] at h; simp at h
  · show (app n bs t (litY b)).1 = _ ∧ (app n bs t (litY b)).2.2 = 0
    have hl := app_lit (n := n) (bs := bs) ht (b : Int) 0 0
    refine ⟨?_, hl.2⟩
    have hlen := (app_len h).1
    have e1 : sizeA ⟨4, yb, yl, yd⟩ = 1 := by unfold sizeA; rw [if_neg (by simp [hf])]; rfl
    rw [e1] at hlen
    rw [show (app n bs t (litY b)).1 = [b] from by rw [litY, hl.1]; simp]
    revert hb hlen
    generalize (app n bs s ⟨4, yb, yl, yd⟩).1 = xs
    intro hb hlen
    match xs, hlen with
    | [x], _ => simp at hb; rw [hb]
/-- What reaches beyond all bytes is refused. -/
theorem app_far {n : Nat} {bs : List Nat} {s : Stt} (h : right s) (b : Int) (hb : (bs.length : Int) + 1 ≤ 4294967295) : app n bs s ⟨2, b, 3, (bs.length : Int) + 1⟩ = ([], zero, 7) := by
  rw [app_match h b 3 _ ⟨by decide, by decide⟩ ⟨by omega, hb⟩, if_neg]
  unfold inwD fullN
  omega
/-- The bytes once more. -/
theorem copy_round {bs : List Nat} (h : 0 < bs.length) : ∀ (i n : Nat), i < n → (copyL bs.length bs n)[i]? = bs[i % bs.length]? := by
  intro i
  induction i using Nat.strongRecOn with
  | ind i ih =>
    intro n hi
    by_cases hd : i < bs.length
    · rw [copyL_first h (Nat.le_refl _) hi hd, Nat.sub_self, Nat.zero_add, Nat.mod_eq_of_lt hd]
    · rw [copyL_then h (Nat.le_refl _) hi (by omega), ih (i - bs.length) (by omega) n (by omega)]
      congr 1
      rw [Nat.mod_eq_sub_mod (by omega : i ≥ bs.length)]
end Sy13
end Go.Proofs.YtlnocjicmofjfaaDoor
