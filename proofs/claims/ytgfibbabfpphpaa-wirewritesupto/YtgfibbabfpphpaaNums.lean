/- Plain laws on the numbers that bytes tell, the one way and the other; nothing of a program. -/
import Derived.Laws.BitsAllLaws
namespace Go.Proofs.Ytgfibbabfpphpaa

/-- The number of bytes, the highest first. -/
def highNum (xs : List Int) : Int := xs.foldl (fun v x => v * 256 + x) 0
/-- The number of bytes, the lowest first. -/
def lowNum (xs : List Int) : Int := xs.foldr (fun x v => x + 256 * v) 0
/-- Every one is a byte. -/
def Bytes8 (xs : List Int) : Prop := ∀ x ∈ xs, 0 ≤ x ∧ x ≤ 255

theorem Bytes8.getD {ys : List Int} (h : Bytes8 ys) (k : Nat) : 0 ≤ ys.getD k 0 ∧ ys.getD k 0 ≤ 255 := by
  by_cases hk : k < ys.length
  · rw [List.getD, List.getElem?_eq_getElem hk]; exact h _ (by simp)
  · rw [List.getD, List.getElem?_eq_none (by omega)]; simp
theorem Bytes8.cut {xs : List Int} (h : Bytes8 xs) (off n : Nat) : Bytes8 ((xs.drop off).take n) := fun x hx => h x (List.mem_of_mem_drop (List.mem_of_mem_take hx))
theorem Bytes8.take {xs : List Int} (h : Bytes8 xs) (n : Nat) : Bytes8 (xs.take n) := fun x hx => h x (List.mem_of_mem_take hx)
theorem Bytes8.append {xs ys : List Int} (h : Bytes8 xs) (k : Bytes8 ys) : Bytes8 (xs ++ ys) := fun x hx => by
  rcases List.mem_append.1 hx with e | e
  · exact h x e
  · exact k x e
theorem Bytes8.nil : Bytes8 [] := fun x hx => by simp at hx
theorem Bytes8.zeros (n : Nat) : Bytes8 (List.replicate n 0) := fun x hx => by
  have := (List.mem_replicate.1 hx).2
  omega

theorem highNum_snoc (xs : List Int) (x : Int) : highNum (xs ++ [x]) = highNum xs * 256 + x := by simp [highNum]
theorem highNum_take (ys : List Int) (k : Nat) (h : k < ys.length) : highNum (ys.take (k + 1)) = highNum (ys.take k) * 256 + ys[k] := by
  rw [List.take_succ_eq_append_getElem h, highNum_snoc]

theorem lowNum_append (xs ys : List Int) : lowNum (xs ++ ys) = lowNum xs + 256 ^ xs.length * lowNum ys := by
  induction xs with
  | nil => simp [lowNum]
  | cons x xs ih =>
    have e : lowNum (x :: xs ++ ys) = x + 256 * lowNum (xs ++ ys) := rfl
    have e2 : lowNum (x :: xs) = x + 256 * lowNum xs := rfl
    rw [e, ih, e2, List.length_cons, Int.pow_succ]
    generalize (256 : Int) ^ xs.length = p
    generalize lowNum xs = a
    generalize lowNum ys = b
    rw [Int.mul_add, Int.mul_comm p 256, Int.mul_assoc, Int.add_assoc]
theorem lowNum_take (ys : List Int) (k : Nat) (h : k < ys.length) : lowNum (ys.take (k + 1)) = lowNum (ys.take k) + 256 ^ k * ys[k] := by
  rw [List.take_succ_eq_append_getElem h, lowNum_append, List.length_take, Nat.min_eq_left (by omega)]
  simp [lowNum]

theorem lowNum_bd : ∀ (xs : List Int), Bytes8 xs → 0 ≤ lowNum xs ∧ lowNum xs < 256 ^ xs.length
  | [], _ => by simp [lowNum]
  | x :: xs, h => by
    have hx := h x (by simp)
    have ih := lowNum_bd xs (fun y hy => h y (by simp [hy]))
    have e2 : lowNum (x :: xs) = x + 256 * lowNum xs := rfl
    rw [e2, List.length_cons, Int.pow_succ]
    omega

theorem highNum_rev (xs : List Int) : highNum xs = lowNum xs.reverse := by
  unfold highNum lowNum
  rw [List.foldr_reverse]
  congr 1
  funext v x
  omega
theorem highNum_bd (xs : List Int) (h : Bytes8 xs) : 0 ≤ highNum xs ∧ highNum xs < 256 ^ xs.length := by
  have := lowNum_bd xs.reverse (fun x hx => h x (by simpa using hx))
  rw [← highNum_rev, List.length_reverse] at this
  exact this

theorem pow_le8 (k : Nat) (h : k ≤ 8) : (256 : Int) ^ k ≤ 18446744073709551616 := by
  match k, h with
  | 0, _ | 1, _ | 2, _ | 3, _ | 4, _ | 5, _ | 6, _ | 7, _ | 8, _ => decide

theorem wrap_u64 (n : Int) (h0 : 0 ≤ n) (h1 : n < 18446744073709551616) : IntKind.u64.wrap n = n := by
  have e : IntKind.u64.wrap n = n % 18446744073709551616 := by simp [IntKind.wrap, IntKind.signed, IntKind.bits]
  rw [e]
  exact Int.emod_eq_of_lt h0 h1

theorem or_add (i a b : Nat) (hb : b < 2 ^ i) : 2 ^ i * a ||| b = 2 ^ i * a + b := (Nat.two_pow_add_eq_or_of_lt hb a).symm

/-- One byte more behind those that are read, the highest first. -/
theorem high_step (ys : List Int) (h : Bytes8 ys) (k : Nat) (hk : k < ys.length) (h8 : k < 8) :
    bits .or .u64 (IntKind.u64.wrap (highNum (ys.take k) * 256)) (IntKind.u64.wrap ys[k]) = highNum (ys.take (k + 1)) := by
  have hb := highNum_bd (ys.take k) (h.take k)
  have hb2 := highNum_bd (ys.take (k + 1)) (h.take (k + 1))
  have hx := h ys[k] (by simp)
  rw [highNum_take ys k hk] at hb2 ⊢
  have hp := pow_le8 (k + 1) (by omega)
  rw [List.length_take, Nat.min_eq_left (by omega)] at hb2
  generalize highNum (ys.take k) = v at *
  generalize ys[k] = x at *
  rw [wrap_u64 _ (by omega) (by omega), wrap_u64 _ (by omega) (by omega)]
  rw [u64_or _ _ (by omega) (by omega) (by omega) (by omega)]
  obtain ⟨v, rfl⟩ := Int.eq_ofNat_of_zero_le (show 0 ≤ v by omega)
  obtain ⟨x, rfl⟩ := Int.eq_ofNat_of_zero_le (show 0 ≤ x by omega)
  have e1 : ((v : Int) * 256).toNat = 2 ^ 8 * v := by omega
  rw [e1, Int.toNat_natCast, or_add 8 v x (by omega)]
  omega

/-- One byte more behind those that are read, the lowest first. -/
theorem low_step (ys : List Int) (h : Bytes8 ys) (k : Nat) (hk : k < ys.length) (h8 : k < 8) :
    bits .or .u64 (lowNum (ys.take k)) (IntKind.u64.wrap (ys[k] * 256 ^ k)) = lowNum (ys.take (k + 1)) := by
  have hb := lowNum_bd (ys.take k) (h.take k)
  have hb2 := lowNum_bd (ys.take (k + 1)) (h.take (k + 1))
  have hx := h ys[k] (by simp)
  rw [lowNum_take ys k hk] at hb2 ⊢
  have hp := pow_le8 (k + 1) (by omega)
  rw [List.length_take, Nat.min_eq_left (by omega)] at hb2 hb
  generalize lowNum (ys.take k) = v at *
  generalize ys[k] = x at *
  have hpp : (0 : Int) ≤ 256 ^ k * x := Int.mul_nonneg (Int.pow_nonneg (by omega)) hx.1
  rw [Int.mul_comm x] at *
  rw [wrap_u64 _ hpp (by omega)]
  rw [u64_or _ _ (by omega) (by omega) (by omega) (by omega)]
  obtain ⟨v, rfl⟩ := Int.eq_ofNat_of_zero_le (show 0 ≤ v by omega)
  obtain ⟨x, rfl⟩ := Int.eq_ofNat_of_zero_le (show 0 ≤ x by omega)
  have e0 : (256 : Nat) ^ k = 2 ^ (8 * k) := by rw [Nat.pow_mul]
  have e1 : ((256 : Int) ^ k * (x : Int)).toNat = 2 ^ (8 * k) * x := by
    rw [show (256 : Int) ^ k * (x : Int) = ((256 ^ k * x : Nat) : Int) by simp, Int.toNat_natCast, e0]
  have hv : v < 2 ^ (8 * k) := by
    rw [← e0]
    have := hb.2
    rw [show (256 : Int) ^ k = ((256 ^ k : Nat) : Int) by simp] at this
    omega
  rw [e1, Int.toNat_natCast, Nat.or_comm, or_add (8 * k) x v hv]
  rw [show (256 : Int) ^ k * (x : Int) = ((256 ^ k * x : Nat) : Int) by simp, e0]
  omega

theorem low_step_walk (ys : List Int) (h : Bytes8 ys) (k : Nat) (hk : k < ys.length) (h8 : k < 8) :
    bits .or .u64 (lowNum (ys.take k)) (IntKind.u64.wrap (IntKind.u64.wrap ys[k] * 2 ^ (8 * k))) = lowNum (ys.take (k + 1)) := by
  have hx := h ys[k] (by simp)
  rw [wrap_u64 ys[k] (by omega) (by omega), show (2 : Int) ^ (8 * k) = 256 ^ k by rw [Int.pow_mul]; rfl]
  exact low_step ys h k hk h8

/-- One byte more, as a sum. -/
theorem high_sum (ys : List Int) (h : Bytes8 ys) (k : Nat) (hk : k < ys.length) (h8 : k < 8) (x : Int) (hx : ys[k] = x) :
    IntKind.u64.wrap (IntKind.u64.wrap (highNum (ys.take k) * 256) + x) = highNum (ys.take (k + 1)) := by
  subst hx
  have hb := highNum_bd (ys.take k) (h.take k)
  have hb2 := highNum_bd (ys.take (k + 1)) (h.take (k + 1))
  have hx := h ys[k] (by simp)
  rw [highNum_take ys k hk] at hb2 ⊢
  have hp := pow_le8 (k + 1) (by omega)
  rw [List.length_take, Nat.min_eq_left (by omega)] at hb2
  generalize highNum (ys.take k) = v at *
  generalize ys[k] = x at *
  rw [wrap_u64 (v * 256) (by omega) (by omega), wrap_u64 _ (by omega) (by omega)]

end Go.Proofs.Ytgfibbabfpphpaa
