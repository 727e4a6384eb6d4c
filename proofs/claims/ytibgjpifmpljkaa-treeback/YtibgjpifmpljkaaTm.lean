/- The mathematics of trees: bits of a number, their way, coding and reading along it; of no statement by itself. -/
import Derived.Test.YtibgjpifmpljkaaBoundD
namespace Go.Proofs.Ytibgjpifmpljkaa
open Go.RowKit
set_option linter.unusedVariables false

/-- The bit that comes as number i. -/
def bitAt (back : Bool) (n v i : Nat) : Nat := if back then v / 2 ^ i % 2 else v / 2 ^ (n - 1 - i) % 2
def bitsOf (back : Bool) (n v : Nat) : List Nat := (List.range n).map (bitAt back n v)
def Bits01 (l : List Nat) : Prop := ∀ b ∈ l, b ≤ 1
theorem bitAt_le (back : Bool) (n v i : Nat) : bitAt back n v i ≤ 1 := by unfold bitAt; split <;> omega
theorem bitsOf_01 (back : Bool) (n v : Nat) : Bits01 (bitsOf back n v) := fun b hb => by
  simp only [bitsOf, List.mem_map] at hb
  obtain ⟨i, _, rfl⟩ := hb
  exact bitAt_le _ _ _ _
theorem bitsOf_len (back : Bool) (n v : Nat) : (bitsOf back n v).length = n := by simp [bitsOf]
theorem bitsOf_at {back : Bool} {n v i : Nat} (h : i < n) : (bitsOf back n v)[i]? = some (bitAt back n v i) := by simp [bitsOf, h]
/-- The way of these bits, from the number m on. -/
def wayQ (p : Nat) : Nat → List Nat → List Q
  | _, [] => []
  | m, b :: l => ⟨false, ((p + m : Nat) : Int), 0, b⟩ :: wayQ p (2 * m + b) l
/-- The number behind them. -/
def wayM : Nat → List Nat → Nat
  | m, [] => m
  | m, b :: l => wayM (2 * m + b) l
theorem wayQ_len (p : Nat) : ∀ (l : List Nat) (m : Nat), (wayQ p m l).length = l.length
  | [], _ => rfl
  | b :: l, m => by simp [wayQ, wayQ_len p l]
theorem wayQ_append (p : Nat) : ∀ (l : List Nat) (m b : Nat), wayQ p m (l ++ [b]) = wayQ p m l ++ [⟨false, ((p + wayM m l : Nat) : Int), 0, b⟩]
  | [], m, b => rfl
  | x :: l, m, b => by simp [wayQ, wayM, wayQ_append p l]
theorem wayM_append : ∀ (l : List Nat) (m b : Nat), wayM m (l ++ [b]) = 2 * wayM m l + b
  | [], m, b => rfl
  | x :: l, m, b => by simp [wayM, wayM_append l]
theorem wayM_in : ∀ (l : List Nat) (m : Nat), Bits01 l → m * 2 ^ l.length ≤ wayM m l ∧ wayM m l < (m + 1) * 2 ^ l.length
  | [], m, _ => by simp [wayM]
  | b :: l, m, h => by
    have hb : b ≤ 1 := h b (List.mem_cons_self ..)
    obtain ⟨h1, h2⟩ := wayM_in l (2 * m + b) (fun x hx => h x (List.mem_cons_of_mem _ hx))
    simp only [wayM, List.length_cons, Nat.pow_succ]
    have e1 : m * (2 ^ l.length * 2) = (2 * m) * 2 ^ l.length := by rw [Nat.mul_comm (2 ^ l.length) 2, ← Nat.mul_assoc, Nat.mul_comm m 2]
    have e2 : (m + 1) * (2 ^ l.length * 2) = (2 * m + 2) * 2 ^ l.length := by rw [Nat.mul_comm (2 ^ l.length) 2, ← Nat.mul_assoc, Nat.mul_comm (m + 1) 2]; congr 1
    rw [e1, e2]
    have a1 : (2 * m) * 2 ^ l.length ≤ (2 * m + b) * 2 ^ l.length := Nat.mul_le_mul_right _ (by omega)
    have a2 : (2 * m + b + 1) * 2 ^ l.length ≤ (2 * m + 2) * 2 ^ l.length := Nat.mul_le_mul_right _ (by omega)
    omega
/-- Its places are places of the row. -/
theorem wayQ_ok {p len n : Nat} (hp : p + 2 ^ n ≤ len) : ∀ (l : List Nat) (m k : Nat), Bits01 l → k + l.length ≤ n → m < 2 ^ (k + 1) → ∀ q ∈ wayQ p m l, q.ok len
  | [], m, k, _, _, _ => fun q hq => (List.not_mem_nil hq).elim
  | b :: l, m, k, h, hk, hm => by
    have hb : b ≤ 1 := h b (List.mem_cons_self ..)
    simp only [List.length_cons] at hk
    have h1 : 2 ^ (k + 1) ≤ 2 ^ n := Nat.pow_le_pow_right (by omega) (by omega)
    intro q hq
    rcases List.mem_cons.1 hq with rfl | hq
    · unfold Q.ok
      rw [if_neg (fun f => by cases f)]
      simp only
      omega
    · exact wayQ_ok hp l (2 * m + b) (k + 1) (fun x hx => h x (List.mem_cons_of_mem _ hx)) (by omega) (by rw [Nat.pow_succ]; omega) q hq
theorem wayQ_ok1 {p len n : Nat} (hp : p + 2 ^ n ≤ len) {l : List Nat} (h : Bits01 l) (hl : l.length ≤ n) : ∀ q ∈ wayQ p 1 l, q.ok len := wayQ_ok hp l 1 0 h (by omega) (by decide)

/-- A number of its bits. -/
def numF : Nat → List Nat → Nat
  | a, [] => a
  | a, b :: l => numF (2 * a + b) l
def numB : List Nat → Nat
  | [] => 0
  | b :: l => b + 2 * numB l
theorem numF_append : ∀ (l : List Nat) (a b : Nat), numF a (l ++ [b]) = 2 * numF a l + b
  | [], a, b => rfl
  | x :: l, a, b => by simp [numF, numF_append l]
theorem numB_append : ∀ (l : List Nat) (b : Nat), numB (l ++ [b]) = numB l + b * 2 ^ l.length
  | [], b => by simp [numB]
  | x :: l, b => by
    simp only [List.cons_append, numB, numB_append l, List.length_cons, Nat.pow_succ]
    have e : b * (2 ^ l.length * 2) = 2 * (b * 2 ^ l.length) := by rw [← Nat.mul_assoc, Nat.mul_comm]
    rw [e]
    omega
theorem numF_take (n v : Nat) : ∀ k, k ≤ n → numF 0 ((bitsOf false n v).take k) = v / 2 ^ (n - k) % 2 ^ k
  | 0, _ => by simp [numF, Nat.mod_one]
  | k + 1, h => by
    rw [List.take_add_one, bitsOf_at (by omega)]
    simp only [Option.toList_some]
    rw [numF_append, numF_take n v k (by omega)]
    have e : v / 2 ^ (n - k) = v / 2 ^ (n - (k + 1)) / 2 := by rw [Nat.div_div_eq_div_mul, ← Nat.pow_succ, show (n - (k + 1)).succ = n - k by omega]
    have eb : bitAt false n v k = v / 2 ^ (n - (k + 1)) % 2 := by unfold bitAt; rw [if_neg (by decide), show n - 1 - k = n - (k + 1) by omega]
    rw [e, eb, Nat.pow_succ, Nat.mul_comm (2 ^ k) 2, Nat.mod_mul]
    omega
theorem numF_bits {n v : Nat} (h : v < 2 ^ n) : numF 0 (bitsOf false n v) = v := by
  have := numF_take n v n (Nat.le_refl _)
  rw [List.take_of_length_le (by rw [bitsOf_len]; exact Nat.le_refl _), Nat.sub_self, Nat.pow_zero, Nat.div_one, Nat.mod_eq_of_lt h] at this
  exact this
theorem numB_take (n v : Nat) : ∀ k, k ≤ n → numB ((bitsOf true n v).take k) = v % 2 ^ k
  | 0, _ => by simp [numB, Nat.mod_one]
  | k + 1, h => by
    rw [List.take_add_one, bitsOf_at (by omega)]
    simp only [Option.toList_some]
    rw [numB_append, numB_take n v k (by omega), List.length_take, bitsOf_len, Nat.min_eq_left (by omega)]
    have eb : bitAt true n v k = v / 2 ^ k % 2 := by unfold bitAt; rw [if_pos rfl]
    rw [eb, Nat.pow_succ, Nat.mod_mul, Nat.mul_comm (v / 2 ^ k % 2)]
theorem numB_bits {n v : Nat} (h : v < 2 ^ n) : numB (bitsOf true n v) = v := by
  have := numB_take n v n (Nat.le_refl _)
  rw [List.take_of_length_le (by rw [bitsOf_len]; exact Nat.le_refl _), Nat.mod_eq_of_lt h] at this
  exact this

/-- Reading along a way: the bits, the decoder and the row behind them, the error (0: none). -/
def getW (bs : List Nat) (p : Nat) : Nat → Nat → Rc.D → List Int → List Nat × Rc.D × List Int × Nat
  | 0, _, d, xs => ([], d, xs, 0)
  | k + 1, m, d, xs => match decA bs ⟨false, ((p + m : Nat) : Int), 0, 0⟩ d xs with
    | .error e => ([], d, xs, e)
    | .ok (b, d', xs') => (b :: (getW bs p k (2 * m + b) d' xs').1, (getW bs p k (2 * m + b) d' xs').2)
theorem decA_v (bs : List Nat) (i : Int) (x : Nat) (d : Rc.D) (xs : List Int) : decA bs ⟨false, i, 0, x⟩ d xs = decA bs ⟨false, i, 0, 0⟩ d xs := rfl
/-- What was coded along a way is read along it. -/
theorem get_back {F : Rc.E} {b : List Nat} (hb : Rc.Begins F b) (hF : 0 < F.R) (p : Nat) : ∀ (l : List Nat) (m : Nat) {e : Rc.E} {d : Rc.D} {xs : List Int}, Bits01 l → Rc.Ok e → In31 xs → (∀ q ∈ wayQ p m l, q.ok xs.length) → Rc.Tracks e F d → Rc.Within (encL (wayQ p m l) e xs).1 F →
    ∃ d', getW b p l.length m d xs = (l, d', (encL (wayQ p m l) e xs).2, 0) ∧ Rc.Tracks (encL (wayQ p m l) e xs).1 F d'
  | [], m, e, d, xs, _, _, _, _, ht, _ => ⟨d, rfl, ht⟩
  | x :: l, m, e, d, xs, h01, hO, hI, hq, ht, hw => by
    have hx : x ≤ 1 := h01 x (List.mem_cons_self ..)
    have hok := hq _ (List.mem_cons_self ..)
    have h2 : ∀ q ∈ wayQ p (2 * m + x) l, q.ok (encX ⟨false, ((p + m : Nat) : Int), 0, x⟩ xs).length := fun q h => by rw [encX_len]; exact hq q (List.mem_cons_of_mem _ h)
    have e1 : encL (wayQ p m (x :: l)) e xs = encL (wayQ p (2 * m + x) l) (encE ⟨false, ((p + m : Nat) : Int), 0, x⟩ e xs) (encX ⟨false, ((p + m : Nat) : Int), 0, x⟩ xs) := by
      show encL (_ :: _) e xs = _
      rw [encL, if_pos hok]
    rw [e1] at hw ⊢
    have hin : Rc.Within (encE ⟨false, ((p + m : Nat) : Int), 0, x⟩ e xs) F := (encL_within (wayQ p (2 * m + x) l) (encE_ok hO hI _) (encX_in hI _)).1.trans hw
    obtain ⟨d1, g1, g2⟩ := step_back hb hF ⟨false, ((p + m : Nat) : Int), 0, x⟩ hO hI hok ht hin
    obtain ⟨d', k1, k2⟩ := get_back hb hF p l (2 * m + x) (fun y hy => h01 y (List.mem_cons_of_mem _ hy)) (encE_ok hO hI _) (encX_in hI _) h2 g2 hw
    refine ⟨d', ?_, k2⟩
    rw [decA_v] at g1
    have hv : x % 2 ^ (⟨false, ((p + m : Nat) : Int), 0, x⟩ : Q).bits = x := by show x % 2 ^ 1 = x; omega
    simp only [hv] at g1
    show getW b p (l.length + 1) m d xs = _
    rw [getW, g1]
    simp only [k1]
end Go.Proofs.Ytibgjpifmpljkaa
