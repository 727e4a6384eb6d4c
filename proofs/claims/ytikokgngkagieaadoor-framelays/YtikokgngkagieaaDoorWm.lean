/- The mathematics of windows: the last bytes, what is copied; of no statement by itself. -/
import Derived.Test.YtikokgngkagieaaDoorRc
namespace Go.Proofs.YtikokgngkagieaaDoor
set_option linter.unusedVariables false

/-- How many bytes a window of that size holds; the byte that came d bytes ago; what is copied. -/
def fullN (size : Nat) (bs : List Nat) : Nat := min bs.length size
def backB (bs : List Nat) (d : Nat) : Nat := bs.getD (bs.length - d) 0
def copyL (d : Nat) : List Nat → Nat → List Nat
  | _, 0 => []
  | bs, n + 1 => backB bs d :: copyL d (bs ++ [backB bs d]) n
theorem copyL_len (d : Nat) : ∀ (n : Nat) (bs : List Nat), (copyL d bs n).length = n
  | 0, _ => rfl
  | n + 1, bs => by simp [copyL, copyL_len d n]
theorem copyL_add (d : Nat) : ∀ (a b : Nat) (bs : List Nat), copyL d bs (a + b) = copyL d bs a ++ copyL d (bs ++ copyL d bs a) b
  | 0, b, bs => by simp [copyL]
  | a + 1, b, bs => by
    rw [show a + 1 + b = (a + b) + 1 by omega]
    simp only [copyL, copyL_add d a b, List.cons_append, List.append_assoc, List.nil_append]
theorem copyL_snoc (d n : Nat) (bs : List Nat) : copyL d bs (n + 1) = copyL d bs n ++ [backB (bs ++ copyL d bs n) d] := by
  rw [copyL_add d n 1 bs]
  rfl
theorem backB_mem {bs : List Nat} {d : Nat} (h1 : 1 ≤ d) (h2 : d ≤ bs.length) : backB bs d ∈ bs := by
  unfold backB
  have h : bs.length - d < bs.length := by omega
  rw [List.getD_eq_getElem?_getD, List.getElem?_eq_getElem h]
  exact List.getElem_mem h
theorem backB_at {bs : List Nat} {d : Nat} (h1 : 1 ≤ d) (h2 : d ≤ bs.length) : bs[bs.length - d]? = some (backB bs d) := by
  unfold backB
  have h : bs.length - d < bs.length := by omega
  rw [List.getD_eq_getElem?_getD, List.getElem?_eq_getElem h]
  rfl
theorem copyL_dig {d : Nat} (h1 : 1 ≤ d) : ∀ (n : Nat) {bs : List Nat}, d ≤ bs.length → Rc.Dig bs → Rc.Dig (copyL d bs n)
  | 0, _, _, _ => fun x hx => (List.not_mem_nil hx).elim
  | n + 1, bs, h2, hd => by
    have hb := hd _ (backB_mem h1 h2)
    have hd2 : Rc.Dig (bs ++ [backB bs d]) := fun x hx => by
      rcases List.mem_append.1 hx with f | f
      · exact hd x f
      · rw [List.mem_singleton.1 f]; exact hb
    have ih := copyL_dig h1 n (bs := bs ++ [backB bs d]) (by rw [List.length_append]; omega) hd2
    intro x hx
    rcases List.mem_cons.1 hx with f | f
    · rw [f]; exact hb
    · exact ih x f
/-- A byte that is copied is the one d places ahead of it, among all that came. -/
theorem copyL_at {d : Nat} (h1 : 1 ≤ d) : ∀ (n : Nat) {bs : List Nat} (i : Nat), d ≤ bs.length → i < n → (copyL d bs n)[i]? = (bs ++ copyL d bs n)[bs.length + i - d]?
  | 0, bs, i, _, hi => absurd hi (Nat.not_lt_zero _)
  | n + 1, bs, 0, h2, hi => by
    rw [List.getElem?_append_left (by omega), show bs.length + 0 - d = bs.length - d by omega, backB_at h1 h2]
    rfl
  | n + 1, bs, i + 1, h2, hi => by
    have ih := copyL_at h1 n (bs := bs ++ [backB bs d]) i (by rw [List.length_append]; omega) (by omega)
    show (copyL d (bs ++ [backB bs d]) n)[i]? = _
    rw [ih, List.append_assoc, List.length_append, List.length_singleton, show bs.length + 1 + i - d = bs.length + (i + 1) - d by omega]
    rfl
theorem copyL_first {d n i : Nat} {bs : List Nat} (h1 : 1 ≤ d) (h2 : d ≤ bs.length) (hi : i < n) (hd : i < d) : (copyL d bs n)[i]? = bs[bs.length - d + i]? := by
  rw [copyL_at h1 n i h2 hi, List.getElem?_append_left (by omega), show bs.length + i - d = bs.length - d + i by omega]
theorem copyL_then {d n i : Nat} {bs : List Nat} (h1 : 1 ≤ d) (h2 : d ≤ bs.length) (hi : i < n) (hd : d ≤ i) : (copyL d bs n)[i]? = (copyL d bs n)[i - d]? := by
  rw [copyL_at h1 n i h2 hi, List.getElem?_append_right (by omega), show bs.length + i - d - bs.length = i - d by omega]
end Go.Proofs.YtikokgngkagieaaDoor
