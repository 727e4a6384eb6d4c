/- The program's low end: settled digits, the held one, a run of full ones, the rest: against the encoder over natural numbers; of no statement by itself. -/
import Derived.Test.YtibgjpifmpljkaaRc
namespace Go.Proofs.Ytibgjpifmpljkaa.Rc

structure Lo where
  s : List Nat
  h : Nat
  r : Nat
  t : Nat

/-- The value of what is not settled. -/
def tl (l : Lo) : Nat := l.h * 256 ^ (l.r + 4) + (256 ^ l.r - 1) * 4294967296 + l.t
def digs (l : Lo) : List Nat := l.s ++ l.h :: (List.replicate l.r 255 ++ dg 4 l.t)

structure Is (l : Lo) (e : E) : Prop where
  dig : Dig l.s
  hh : l.h < 256
  ht : l.t < 4294967296
  len : l.s.length + l.r = e.k
  value : val l.s * 256 ^ (l.r + 5) + tl l = e.L
  fit : tl l + e.R ≤ 256 ^ (l.r + 5)

def begin_ : Lo := ⟨[], 0, 0, 0⟩

def carry (s : List Nat) (h r t : Nat) : Lo := if r = 0 then ⟨s, h + 1, 0, t⟩ else ⟨s ++ (h + 1) :: List.replicate (r - 1) 0, 0, 0, t⟩
def add (l : Lo) (v : Nat) : Lo := if l.t + v < 4294967296 then ⟨l.s, l.h, l.r, l.t + v⟩ else carry l.s l.h l.r (l.t + v - 4294967296)
def shift (l : Lo) : Lo := if l.t / 16777216 = 255 then ⟨l.s, l.h, l.r + 1, l.t * 256 % 4294967296⟩ else ⟨l.s ++ l.h :: List.replicate l.r 255, l.t / 16777216, 0, l.t * 256 % 4294967296⟩

theorem val_fulls : ∀ n, val (List.replicate n 255) = 256 ^ n - 1
  | 0 => rfl
  | n + 1 => by
    have pos : 0 < 256 ^ n := Nat.pow_pos (by omega)
    rw [List.replicate_succ, val, List.length_replicate, val_fulls n, Nat.pow_succ]
    omega
theorem val_zeros : ∀ n, val (List.replicate n 0) = 0
  | 0 => rfl
  | n + 1 => by rw [List.replicate_succ, val, val_zeros n]; simp
theorem dig_rep {n x : Nat} (h : x < 256) : Dig (List.replicate n x) := fun y hy => by
  obtain ⟨_, rfl⟩ := List.mem_replicate.1 hy
  exact h
theorem dig_app {a b : List Nat} (ha : Dig a) (hb : Dig b) : Dig (a ++ b) := fun y hy => by
  rcases List.mem_append.1 hy with h | h
  · exact ha y h
  · exact hb y h
theorem dig_cons {x : Nat} {a : List Nat} (hx : x < 256) (ha : Dig a) : Dig (x :: a) := fun y hy => by
  rcases List.mem_cons.1 hy with h | h
  · rw [h]; exact hx
  · exact ha y h

theorem digs_val (l : Lo) (ht : l.t < 4294967296) : val (digs l) = val l.s * 256 ^ (l.r + 5) + tl l := by
  have e4 : val (dg 4 l.t) = l.t := val_dg 4 l.t (by omega)
  unfold digs tl
  rw [val_append, val, val_append, val_fulls, e4]
  simp only [List.length_append, List.length_cons, List.length_replicate, dg_len]
  rw [show (256 : Nat) ^ 4 = 4294967296 by decide, show l.r + 4 + 1 = l.r + 5 by omega]
  omega
theorem digs_len (l : Lo) : (digs l).length = l.s.length + l.r + 5 := by
  unfold digs
  simp only [List.length_append, List.length_cons, List.length_replicate, dg_len]
  omega
theorem digs_dig {l : Lo} {e : E} (h : Is l e) : Dig (digs l) := dig_app h.dig (dig_cons h.hh (dig_app (dig_rep (by omega)) (dg_dig _ _)))
theorem digs_is {l : Lo} {e : E} (h : Is l e) : digs l = by_ e := by
  have h1 := dg_val (digs_dig h)
  rw [digs_len, h.len, digs_val l h.ht, h.value] at h1
  exact h1.symm

theorem Is.less {l : Lo} {e : E} (h : Is l e) {Q : Nat} (hQ : Q ≤ e.R) : Is l ⟨e.L, Q, e.k⟩ := ⟨h.dig, h.hh, h.ht, h.len, h.value, by have := h.fit; show tl l + Q ≤ _; omega⟩

theorem tl_eq (l : Lo) : tl l = l.h * 256 ^ l.r * 4294967296 + (256 ^ l.r - 1) * 4294967296 + l.t := by
  unfold tl
  rw [show 256 ^ (l.r + 4) = 256 ^ l.r * 4294967296 by rw [Nat.pow_add], ← Nat.mul_assoc]
theorem p5 (x r : Nat) : x * 256 ^ (r + 5) = x * 256 ^ r * 1099511627776 := by
  rw [show 256 ^ (r + 5) = 256 ^ r * 1099511627776 by rw [Nat.pow_add], ← Nat.mul_assoc]

theorem is_mk {s : List Nat} {h r t L R k : Nat} (P A B M : Nat) (hP : 256 ^ r = P) (hM : P = M + 1) (hA : val s * P = A) (hB : h * P = B) (dig : Dig s) (hh : h < 256) (ht : t < 4294967296) (len : s.length + r = k) (value : 1099511627776 * A + (4294967296 * B + 4294967296 * M + t) = L) (fit : 4294967296 * B + 4294967296 * M + t + R ≤ 1099511627776 * P) : Is ⟨s, h, r, t⟩ ⟨L, R, k⟩ := by
  have e5 := p5 1 r
  rw [Nat.one_mul, Nat.one_mul] at e5
  refine ⟨dig, hh, ht, len, ?_, ?_⟩
  · rw [p5, tl_eq]
    dsimp only
    rw [hP, hA, hB, show P - 1 = M by omega]
    omega
  · rw [tl_eq, e5]
    dsimp only
    rw [hP, hB, show P - 1 = M by omega]
    omega
theorem is_mk0 {s : List Nat} {h t L R k : Nat} (dig : Dig s) (hh : h < 256) (ht : t < 4294967296) (len : s.length = k) (value : 1099511627776 * val s + (4294967296 * h + t) = L) (fit : 4294967296 * h + t + R ≤ 1099511627776) : Is ⟨s, h, 0, t⟩ ⟨L, R, k⟩ :=
  is_mk 1 (val s) h 0 rfl rfl (Nat.mul_one _) (Nat.mul_one _) dig hh ht len (by rw [Nat.mul_zero, Nat.add_zero]; exact value) (by rw [Nat.mul_zero, Nat.add_zero, Nat.mul_one]; exact fit)
theorem begin_is : Is begin_ start := is_mk0 (fun x h => by cases h) (by omega) (by omega) rfl rfl (by omega)

theorem Is.parts {l : Lo} {e : E} (h : Is l e) : ∃ P A B M, 256 ^ l.r = P ∧ P = M + 1 ∧ val l.s * P = A ∧ l.h * P = B ∧ 1099511627776 * A + (4294967296 * B + 4294967296 * M + l.t) = e.L ∧ 4294967296 * B + 4294967296 * M + l.t + e.R ≤ 1099511627776 * P := by
  have e5 := p5 1 l.r
  rw [Nat.one_mul, Nat.one_mul] at e5
  have hf := h.fit
  have hv := h.value
  rw [p5, tl_eq] at hv
  rw [e5, tl_eq] at hf
  have pos : 0 < 256 ^ l.r := Nat.pow_pos (by omega)
  exact ⟨_, _, _, 256 ^ l.r - 1, rfl, by omega, rfl, rfl, by omega, by omega⟩

theorem add_is {l : Lo} {e : E} (h : Is l e) {b Q : Nat} (hb : b < 4294967296) (hQ : b + Q ≤ e.R) (h0 : 0 < Q) (hR : e.R ≤ 4294967296) : Is (add l b) ⟨e.L + b, Q, e.k⟩ := by
  obtain ⟨P, A, B, M, hP, hM, hA, hB, hv, hf⟩ := h.parts
  have ht := h.ht
  unfold add
  split
  · exact is_mk P A B M hP hM hA hB h.dig h.hh (by assumption) h.len (by omega) (by omega)
  · have hh : l.h < 255 := by
      rcases Nat.lt_or_ge l.h 255 with c | c
      · exact c
      · exfalso
        have h1 : 255 * P ≤ l.h * P := Nat.mul_le_mul_right _ c
        omega
    have hlen := h.len
    have hdig := h.dig
    unfold carry
    clear h
    generalize l.s = s at *
    generalize l.h = d at *
    generalize l.r = r at *
    generalize l.t = t at *
    by_cases hr : r = 0
    · subst hr
      rw [Nat.pow_zero] at hP
      have hM0 : M = 0 := by omega
      have hA0 : A = val s := by rw [← hA, ← hP, Nat.mul_one]
      have hB0 : B = d := by rw [← hB, ← hP, Nat.mul_one]
      rw [if_pos rfl]
      clear hA hB
      obtain ⟨d', hd'⟩ : ∃ x, d + 1 = x := ⟨_, rfl⟩
      rw [hd']
      exact is_mk0 hdig (by omega) (by omega) hlen (by omega) (by omega)
    · rw [if_neg hr]
      obtain ⟨n, rfl⟩ : ∃ n, r = n + 1 := ⟨r - 1, by omega⟩
      obtain ⟨P', hP'⟩ : ∃ P', 256 ^ n = P' := ⟨_, rfl⟩
      have q3 : P = P' * 256 := by rw [← hP, ← hP']; exact Nat.pow_succ ..
      have q2 : B = d * P' * 256 := by rw [← hB, q3, Nat.mul_assoc]
      have q4 : (d + 1) * P' = d * P' + P' := Nat.succ_mul _ _
      refine is_mk0 (dig_app hdig (dig_cons (by omega) (dig_rep (by omega)))) (by omega) (by omega) ?_ ?_ ?_
      · simp only [List.length_append, List.length_cons, List.length_replicate]
        omega
      · have q5 : val (s ++ (d + 1) :: List.replicate n 0) = A + (d * P' + P') := by
          rw [val_append, val, val_zeros, List.length_cons, List.length_replicate, hP, hA, hP', q4, Nat.add_zero]
        rw [show n + 1 - 1 = n by omega]
        clear hP hP' hA hB q4
        generalize d * P' = X at *
        generalize val (s ++ (d + 1) :: List.replicate n 0) = V at *
        rw [Nat.mul_zero]
        omega
      · clear hP hP' hA hB q4
        rw [Nat.mul_zero]
        omega
theorem shift_is {l : Lo} {e : E} (h : Is l e) (hR : e.R < 16777216) : Is (shift l) ⟨256 * e.L, 256 * e.R, e.k + 1⟩ := by
  obtain ⟨P, A, B, M, hP, hM, hA, hB, hv, hf⟩ := h.parts
  have ht := h.ht
  have hlen := h.len
  have hdig := h.dig
  have hh := h.hh
  unfold shift
  clear h
  generalize l.s = s at *
  generalize l.h = d at *
  generalize l.r = r at *
  generalize l.t = t at *
  split
  · have g1 : 256 ^ (r + 1) = P * 256 := by rw [← hP]; exact Nat.pow_succ ..
    have g2 : val s * (P * 256) = A * 256 := by rw [← hA, Nat.mul_assoc]
    have g3 : d * (P * 256) = B * 256 := by rw [← hB, Nat.mul_assoc]
    obtain ⟨P2, hP2⟩ : ∃ x, P * 256 = x := ⟨_, rfl⟩
    obtain ⟨A2, hA2⟩ : ∃ x, A * 256 = x := ⟨_, rfl⟩
    obtain ⟨B2, hB2⟩ : ∃ x, B * 256 = x := ⟨_, rfl⟩
    obtain ⟨M2, hM2⟩ : ∃ x, M * 256 + 255 = x := ⟨_, rfl⟩
    rw [hP2] at g1 g2 g3
    rw [hA2] at g2
    rw [hB2] at g3
    refine is_mk P2 A2 B2 M2 g1 ?_ g2 g3 hdig hh ?_ ?_ ?_ ?_ <;> (clear g1 g2 g3 hP hA hB; omega)
  · refine is_mk0 (dig_app hdig (dig_cons hh (dig_rep (by omega)))) (by omega) (by omega) ?_ ?_ ?_
    · simp only [List.length_append, List.length_cons, List.length_replicate]
      omega
    · have q5 : val (s ++ d :: List.replicate r 255) = A * 256 + (B + M) := by
        rw [val_append, val, val_fulls, List.length_cons, List.length_replicate, hP, hB, show P - 1 = M by omega, show 256 ^ (r + 1) = P * 256 by rw [← hP]; exact Nat.pow_succ .., ← hA, Nat.mul_assoc]
      clear hP hA hB
      generalize val (s ++ d :: List.replicate r 255) = V at *
      obtain ⟨T, hT⟩ : ∃ x, t / 16777216 = x := ⟨_, rfl⟩
      rw [hT]
      omega
    · clear hP hA hB
      obtain ⟨T, hT⟩ : ∃ x, t / 16777216 = x := ⟨_, rfl⟩
      rw [hT]
      omega
end Go.Proofs.Ytibgjpifmpljkaa.Rc
