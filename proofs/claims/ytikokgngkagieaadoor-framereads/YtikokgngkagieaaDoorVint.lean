/- The contracts of varint and of the document's own answer for it; of no statement by themselves. -/
import Derived.Test.YtikokgngkagieaaDoorBase
import Derived.Test.YtikokgngkagieaaDoorMem
import Derived.Laws.BitsAllLaws
import Derived.Laws.CopyOwn
import Derived.Laws.BytesArg
import Derived.BigQuiet
import Derived.WalkSpells
namespace Go.Proofs.YtikokgngkagieaaDoor.Vint
open Go.RowKit
set_option linter.unusedVariables false
set_option linter.unusedSimpArgs false
set_option maxRecDepth 20000
/-- The bounds: 128, its square, and so on. -/
def bd : Nat → Int
  | 0 => 128
  | 1 => 16384
  | 2 => 2097152
  | 3 => 268435456
  | 4 => 34359738368
  | 5 => 4398046511104
  | 6 => 562949953421312
  | _ => 72057594037927936
/-- How many bytes a number of at most 63 bits has. -/
def sz (v : Int) : Nat :=
  if v < 128 then 1 else if v < 16384 then 2 else if v < 2097152 then 3 else if v < 268435456 then 4 else if v < 34359738368 then 5
  else if v < 4398046511104 then 6 else if v < 562949953421312 then 7 else if v < 72057594037927936 then 8 else 9
theorem sz_is {v : Int} {n : Nat} (h : sz v = n) : 1 ≤ n ∧ n ≤ 9 ∧ (n < 9 → v < bd (n - 1)) ∧ (1 < n → bd (n - 2) ≤ v) := by
  subst h
  unfold sz
  repeat' split
  all_goals (refine ⟨by omega, by omega, fun _ => ?_, fun _ => ?_⟩ <;> simp only [bd, Nat.reduceSub] <;> omega)
theorem sz_of {v : Int} {k : Nat} (hk : k < 8) (h : v < bd k) (hb : ∀ j, j < k → bd j ≤ v) : ((k : Int) + 1) = (sz v : Int) := by
  have e0 := hb 0
  have e1 := hb 1
  have e2 := hb 2
  have e3 := hb 3
  have e4 := hb 4
  have e5 := hb 5
  have e6 := hb 6
  clear hb
  unfold sz
  rcases k with _ | _ | _ | _ | _ | _ | _ | _ | k
  all_goals first | omega | (simp only [bd, Nat.reduceAdd] at *; repeat' split) <;> omega
theorem sz_nine {v : Int} (hb : ∀ j, j < 8 → bd j ≤ v) : (9 : Int) = (sz v : Int) := by
  have e0 := hb 0 (by omega)
  have e1 := hb 1 (by omega)
  have e2 := hb 2 (by omega)
  have e3 := hb 3 (by omega)
  have e4 := hb 4 (by omega)
  have e5 := hb 5 (by omega)
  have e6 := hb 6 (by omega)
  have e7 := hb 7 (by omega)
  clear hb
  unfold sz
  simp only [bd] at *
  repeat' split
  all_goals omega
theorem ret_int {k : IntKind} {a b : Int} (h : a = b) : Ending.returned (.int k a) = .returned (.int k b) := by rw [h]
theorem info5 : (Tryd.prog.info? 5).map (fun i => (i.zero, i.size, i.bytes)) = some (some (.int .u8 0), 1, 1) := by kernel_rfl
/-- Bytes as cells. -/
def cells8 (xs : List Int) : List Value := xs.map (Value.int .u8)
/-- The group number i of seven bits. -/
def dg (v : Int) (i : Nat) : Int := v / 128 ^ i % 128
theorem dg_bd (v : Int) (i : Nat) : 0 ≤ dg v i ∧ dg v i < 128 := by unfold dg; omega
/-- The bytes of a number of n groups. -/
def putl (n : Nat) (v : Int) : List Int := (List.range n).map fun i => if i + 1 < n then dg v i + 128 else dg v i
/-- The bytes behind k rounds: 128 more in each. -/
def stage (n : Nat) (v : Int) (k : Nat) : List Int := (List.range n).map fun i => if i < k then dg v i + 128 else 0
theorem set_range (n : Nat) (f : Nat → Int) (k : Nat) (u : Int) : (cells8 ((List.range n).map f)).set k (.int .u8 u) = cells8 ((List.range n).map fun i => if i = k then u else f i) := by
  apply List.ext_getElem?
  intro j
  simp only [cells8, List.getElem?_set, List.getElem?_map, List.length_map, List.length_range]
  by_cases hj : j < n
  · by_cases e : k = j
    · subst e; simp [hj]
    · simp [hj, e, Ne.symm e]
  · by_cases e : k = j
    · subst e; simp [hj]
    · simp [hj, e]
theorem blk_setk {w : World} {a : Nat} {l : List Value} {t : TypeId} (h : w.heap[a]? = some (.cells l.toArray t (0, 0))) (k : Nat) (u : Value) : (w.setCell ⟨a, k, none⟩ u).heap[a]? = some (.cells (l.set k u).toArray t (0, 0)) := by
  have hlt := lt_of_blk h
  have h' : w.heap[a] = .cells l.toArray t (0, 0) := by simpa [Array.getElem?_eq_getElem hlt] using h
  show (w.heap.modify a _)[a]? = _
  rw [Array.getElem?_eq_getElem (by simpa using hlt), Array.getElem_modify_self, h']
  simp
theorem stage_step (n k : Nat) (v : Int) : (cells8 (stage n v k)).set k (.int .u8 (dg v k + 128)) = cells8 (stage n v (k + 1)) := by
  rw [stage, set_range]
  congr 1
  apply List.map_congr_left
  intro i _
  by_cases e : i = k
  · subst e; simp
  · simp only [e, if_false]
    by_cases hl : i < k
    · simp [hl, show i < k + 1 by omega]
    · simp [hl, show ¬ i < k + 1 by omega]
theorem stage_last (m : Nat) (v : Int) : (cells8 (stage (m + 1) v (m + 1))).set m (.int .u8 (dg v m)) = cells8 (putl (m + 1) v) := by
  rw [stage, set_range, putl]
  congr 1
  apply List.map_congr_left
  intro i hi
  have hi := List.mem_range.1 hi
  by_cases e : i = m
  · subst e; simp
  · simp [e, show i < m + 1 by omega, show i < m by omega]
theorem stage_zero (n : Nat) (v : Int) : cells8 (stage n v 0) = List.replicate n (Value.int .u8 0) := by
  simp [cells8, stage, List.map_const']
theorem div_step (v : Int) (k : Nat) : v / 128 ^ k / 128 = v / 128 ^ (k + 1) := by
  rw [Int.pow_succ, Int.ediv_ediv_of_nonneg (Int.pow_nonneg (by omega))]
/-- The bytes of a number. -/
def vb (v : Int) : List Int := putl (sz v) v
theorem vb_length (v : Int) : (vb v).length = sz v := by simp [vb, putl]
/-- Every one is a byte. -/
def Bytes8 (xs : List Int) : Prop := ∀ x ∈ xs, 0 ≤ x ∧ x ≤ 255
theorem Bytes8.take {xs : List Int} (h : Bytes8 xs) (n : Nat) : Bytes8 (xs.take n) := fun x hx => h x (List.mem_of_mem_take hx)
theorem Bytes8.append {xs ys : List Int} (h : Bytes8 xs) (k : Bytes8 ys) : Bytes8 (xs ++ ys) := fun x hx => by
  rcases List.mem_append.1 hx with e | e
  · exact h x e
  · exact k x e
theorem Bytes8.nil : Bytes8 [] := fun x hx => by simp at hx
/-- The number that bytes tell, the lowest group first. -/
def wt (xs : List Int) : Int := xs.foldr (fun x v => x % 128 + 128 * v) 0
theorem wt_cons (x : Int) (xs : List Int) : wt (x :: xs) = x % 128 + 128 * wt xs := rfl
theorem wt_append (xs ys : List Int) : wt (xs ++ ys) = wt xs + 128 ^ xs.length * wt ys := by
  induction xs with
  | nil => simp [wt]
  | cons x xs ih =>
    rw [List.cons_append, wt_cons, ih, wt_cons, List.length_cons, Int.pow_succ]
    generalize (128 : Int) ^ xs.length = p
    generalize wt xs = a
    generalize wt ys = b
    rw [Int.mul_add, Int.mul_comm p 128, Int.mul_assoc, Int.add_assoc]
theorem wt_one (y : Int) : wt [y] = y % 128 := by simp [wt]
theorem wt_take (ys : List Int) (k : Nat) (h : k < ys.length) : wt (ys.take (k + 1)) = wt (ys.take k) + 128 ^ k * (ys[k] % 128) := by
  rw [List.take_succ_eq_append_getElem h, wt_append, List.length_take, Nat.min_eq_left (by omega), wt_one]
theorem wt_bd : ∀ (xs : List Int), 0 ≤ wt xs ∧ wt xs < 128 ^ xs.length
  | [] => by simp [wt]
  | x :: xs => by
    have ih := wt_bd xs
    rw [wt_cons, List.length_cons, Int.pow_succ]
    omega
theorem pow_le9 (k : Nat) (h : k ≤ 9) : (128 : Int) ^ k ≤ 9223372036854775808 := by
  match k, h with
  | 0, _ | 1, _ | 2, _ | 3, _ | 4, _ | 5, _ | 6, _ | 7, _ | 8, _ | 9, _ => decide
theorem wrap_u64 (n : Int) (h0 : 0 ≤ n) (h1 : n < 18446744073709551616) : IntKind.u64.wrap n = n := by
  have e : IntKind.u64.wrap n = n % 18446744073709551616 := by simp [IntKind.wrap, IntKind.signed, IntKind.bits]
  rw [e]
  exact Int.emod_eq_of_lt h0 h1
theorem or_add (i a b : Nat) (hb : b < 2 ^ i) : 2 ^ i * a ||| b = 2 ^ i * a + b := (Nat.two_pow_add_eq_or_of_lt hb a).symm
/-- One group more above those that are read. -/
theorem wt_step (ys : List Int) (k : Nat) (hk : k < ys.length) (h9 : k < 9) :
    bits .or .u64 (wt (ys.take k)) (IntKind.u64.wrap (ys[k] % 128 * 2 ^ (7 * k))) = wt (ys.take (k + 1)) := by
  have hb := wt_bd (ys.take k)
  have hb2 := wt_bd (ys.take (k + 1))
  rw [wt_take ys k hk] at hb2 ⊢
  have hp := pow_le9 (k + 1) (by omega)
  rw [List.length_take, Nat.min_eq_left (by omega)] at hb2 hb
  have hx : 0 ≤ ys[k] % 128 ∧ ys[k] % 128 < 128 := by omega
  rw [show (2 : Int) ^ (7 * k) = 128 ^ k by rw [Int.pow_mul]; rfl]
  generalize wt (ys.take k) = v at *
  generalize ys[k] % 128 = x at *
  have hpp : (0 : Int) ≤ 128 ^ k * x := Int.mul_nonneg (Int.pow_nonneg (by omega)) hx.1
  rw [Int.mul_comm x] at *
  rw [wrap_u64 _ hpp (by omega)]
  rw [u64_or _ _ (by omega) (by omega) (by omega) (by omega)]
  obtain ⟨v, rfl⟩ := Int.eq_ofNat_of_zero_le (show 0 ≤ v by omega)
  obtain ⟨x, rfl⟩ := Int.eq_ofNat_of_zero_le (show 0 ≤ x by omega)
  have e0 : (128 : Nat) ^ k = 2 ^ (7 * k) := by rw [Nat.pow_mul]
  have e1 : ((128 : Int) ^ k * (x : Int)).toNat = 2 ^ (7 * k) * x := by
    rw [show (128 : Int) ^ k * (x : Int) = ((128 ^ k * x : Nat) : Int) by simp, Int.toNat_natCast, e0]
  have hv : v < 2 ^ (7 * k) := by
    rw [← e0]
    have := hb.2
    rw [show (128 : Int) ^ k = ((128 ^ k : Nat) : Int) by simp] at this
    omega
  rw [e1, Int.toNat_natCast, Nat.or_comm, or_add (7 * k) x v hv]
  rw [show (128 : Int) ^ k * (x : Int) = ((128 ^ k * x : Nat) : Int) by simp, e0]
  omega
/-- What 'length' tells of bytes: cut off; too long, or a last byte 0; or how many. -/
def LenIs (xs : List Int) (n e : Int) : Prop :=
  (e = 1 ∧ n = 0 ∧ xs.length ≤ 8 ∧ ∀ (j : Nat) y, xs[j]? = some y → 128 ≤ y) ∨
  (e = 2 ∧ n = 0 ∧ 9 ≤ xs.length ∧ ∀ (j : Nat) y, j < 9 → xs[j]? = some y → 128 ≤ y) ∨
  (∃ (h : Nat) (x : Int), h ≤ 8 ∧ xs[h]? = some x ∧ x < 128 ∧ (∀ (j : Nat) y, j < h → xs[j]? = some y → 128 ≤ y) ∧ ((0 < h ∧ x = 0 ∧ e = 2 ∧ n = 0) ∨ (¬ (0 < h ∧ x = 0) ∧ e = 0 ∧ n = (h : Int) + 1)))
theorem LenIs.ok {xs : List Int} {n e : Int} (H : LenIs xs n e) {h : Nat} {x : Int} (hh : h ≤ 8) (hx : xs[h]? = some x) (h1 : x < 128) (hj : ∀ (j : Nat) y, j < h → xs[j]? = some y → 128 ≤ y) (hz : ¬ (0 < h ∧ x = 0)) : e = 0 ∧ n = (h : Int) + 1 := by
  rcases H with ⟨_, _, _, k⟩ | ⟨_, _, _, k⟩ | ⟨h', x', a, b, c, d, f⟩
  · have := k h x hx; omega
  · have := k h x (by omega) hx; omega
  · have e1 : ¬ h < h' := fun hl => by have := d h x hl hx; omega
    have e2 : ¬ h' < h := fun hl => by have := hj h' x' hl b; omega
    obtain rfl : h' = h := by omega
    rw [hx] at b
    simp only [Option.some.injEq] at b
    subst b
    rcases f with ⟨f1, f2, _⟩ | ⟨_, f⟩
    · exact (hz ⟨f1, f2⟩).elim
    · exact f
theorem LenIs.cut {xs : List Int} {n e : Int} (H : LenIs xs n e) (hl : xs.length ≤ 8) (hj : ∀ (j : Nat) y, xs[j]? = some y → 128 ≤ y) : e = 1 ∧ n = 0 := by
  rcases H with ⟨a, b, _⟩ | ⟨_, _, c, _⟩ | ⟨h', x', a, b, c, d, f⟩
  · exact ⟨a, b⟩
  · omega
  · have := hj h' x' b; omega
/-- What Get tells of bytes. -/
def GetIs (xs : List Int) (v n e : Int) : Prop := LenIs xs n e ∧ (e = 0 → v = wt (xs.take n.toNat)) ∧ (e ≠ 0 → v = 0)
theorem emod_pow_succ (v : Int) (n : Nat) : v % 128 ^ (n + 1) = v % 128 ^ n + 128 ^ n * (v / 128 ^ n % 128) := by
  have hp : (0 : Int) < 128 ^ n := Int.pow_pos (by omega)
  rw [Int.emod_def (v / 128 ^ n) 128, Int.emod_def v (128 ^ n), Int.emod_def v, Int.pow_succ, ← Int.ediv_ediv_of_nonneg (Int.le_of_lt hp)]
  generalize (128 : Int) ^ n = p
  generalize v / p = q
  rw [Int.mul_sub, Int.mul_assoc]
  omega
theorem wt_range (n : Nat) (v : Int) (f : Nat → Int) (hf : ∀ i, i < n → f i % 128 = dg v i) : wt ((List.range n).map f) = v % 128 ^ n := by
  induction n with
  | zero => simp [wt]
  | succ n ih =>
    rw [List.range_succ, List.map_append, wt_append, ih (fun i hi => hf i (by omega)), emod_pow_succ]
    simp [wt, hf n (by omega), dg]
theorem wt_putl (n : Nat) (v : Int) (h0 : 0 ≤ v) (h1 : v < 128 ^ n) : wt (putl n v) = v := by
  rw [putl, wt_range n v]
  · exact Int.emod_eq_of_lt h0 h1
  · intro i _
    have := dg_bd v i
    split <;> omega
theorem bd_pow (k : Nat) (hk : k < 8) : bd k = 128 ^ (k + 1) := by
  rcases k with _ | _ | _ | _ | _ | _ | _ | _ | k
  all_goals first | omega | decide
theorem sz_pow {v : Int} (h1 : v ≤ 9223372036854775807) : v < 128 ^ sz v ∧ (1 < sz v → 128 ^ (sz v - 1) ≤ v) ∧ 1 ≤ sz v ∧ sz v ≤ 9 := by
  obtain ⟨a, b, c, d⟩ := sz_is (v := v) rfl
  generalize sz v = n at *
  refine ⟨?_, fun h => ?_, a, b⟩
  · by_cases h9 : n = 9
    · subst h9; omega
    · have := c (by omega)
      rw [bd_pow _ (by omega), Nat.sub_add_cancel a] at this
      exact this
  · have := d h
    rw [bd_pow _ (by omega), show n - 2 + 1 = n - 1 by omega] at this
    exact this
theorem pow_mono {a b : Nat} (h : a ≤ b) : (128 : Int) ^ a ≤ 128 ^ b := by
  obtain ⟨c, rfl⟩ := Nat.le.dest h
  rw [Int.pow_add]
  have h1 : (0 : Int) < 128 ^ a := Int.pow_pos (by omega)
  have h2 : (0 : Int) < 128 ^ c := Int.pow_pos (by omega)
  have := Int.mul_le_mul_of_nonneg_left (show (1 : Int) ≤ 128 ^ c by omega) (Int.le_of_lt h1)
  omega
theorem sz_eq {v : Int} {h : Nat} (hh : h ≤ 8) (hlo : 0 < h → 128 ^ h ≤ v) (hhi : v < 128 ^ (h + 1)) : sz v = h + 1 := by
  have hv : v ≤ 9223372036854775807 := by have := pow_le9 (h + 1) (by omega); omega
  obtain ⟨a, b, c, d⟩ := sz_pow hv
  by_cases e1 : sz v < h + 1
  · have := hlo (by omega)
    have := pow_mono (show sz v ≤ h by omega)
    omega
  · by_cases e2 : h + 1 < sz v
    · have := b (by omega)
      have := pow_mono (show h + 1 ≤ sz v - 1 by omega)
      omega
    · omega
theorem vb_wt (v : Int) (h0 : 0 ≤ v) (h1 : v ≤ 9223372036854775807) : wt (vb v) = v := wt_putl _ v h0 (sz_pow h1).1
theorem dg_top {v : Int} (h1 : v ≤ 9223372036854775807) (h : 1 < sz v) : dg v (sz v - 1) ≠ 0 := by
  obtain ⟨a, b, c, d⟩ := sz_pow h1
  have hb := b h
  unfold dg
  have hp : (0 : Int) < 128 ^ (sz v - 1) := Int.pow_pos (by omega)
  have h2 : 1 ≤ v / 128 ^ (sz v - 1) := by
    have := Int.ediv_le_ediv hp hb
    rw [Int.ediv_self (by omega)] at this
    exact this
  have h3 : v / 128 ^ (sz v - 1) < 128 := by
    apply Int.ediv_lt_of_lt_mul hp
    have e : (128 : Int) * 128 ^ (sz v - 1) = 128 ^ sz v := by
      rw [Int.mul_comm, ← Int.pow_succ]; congr 1; omega
    omega
  omega
theorem vb_get {v : Int} {i : Nat} (hi : i < sz v) : (vb v)[i]? = some (if i + 1 < sz v then dg v i + 128 else dg v i) := by
  simp [vb, putl, hi]
theorem vb_bytes (v : Int) : Bytes8 (vb v) := fun x hx => by
  simp only [vb, putl, List.mem_map] at hx
  obtain ⟨i, _, rfl⟩ := hx
  have := dg_bd v i
  split <;> omega
/-- P2.4, the one way: the bytes of a number, with anything behind them. -/
theorem get_vb {v : Int} (h0 : 0 ≤ v) (h1 : v ≤ 9223372036854775807) {t : List Int} {x n e : Int} (H : GetIs (vb v ++ t) x n e) : x = v ∧ n = sz v ∧ e = 0 := by
  obtain ⟨a, b, c, d⟩ := sz_pow h1
  obtain ⟨HL, Hv, -⟩ := H
  have hl := vb_length v
  have hlast : (vb v ++ t)[sz v - 1]? = some (dg v (sz v - 1)) := by
    rw [List.getElem?_append_left (by omega), vb_get (by omega), if_neg (by omega)]
  obtain ⟨e0, n0⟩ := HL.ok (h := sz v - 1) (by omega) hlast (dg_bd v _).2 (fun j y hj hy => by
    rw [List.getElem?_append_left (by omega), vb_get (by omega), if_pos (by omega)] at hy
    simp only [Option.some.injEq] at hy
    have := dg_bd v j
    omega) (fun ⟨p, q⟩ => dg_top h1 (by omega) q)
  have hn : n = sz v := by omega
  refine ⟨?_, hn, e0⟩
  rw [Hv e0, hn, Int.toNat_natCast, ← hl, List.take_left, vb_wt v h0 h1]
/-- P2.5: a proper beginning is cut off. -/
theorem get_cut {v : Int} (h1 : v ≤ 9223372036854775807) {c : Nat} (hc : c < sz v) {x n e : Int} (H : GetIs ((vb v).take c) x n e) : x = 0 ∧ n = 0 ∧ e = 1 := by
  obtain ⟨HL, -, Hv⟩ := H
  have hs := sz_pow h1
  have hl := vb_length v
  obtain ⟨e1, n0⟩ := HL.cut (by rw [List.length_take]; omega) (fun j y hy => by
    rw [List.getElem?_take] at hy
    split at hy
    · rw [vb_get (by omega), if_pos (by omega)] at hy
      simp only [Option.some.injEq] at hy
      have := dg_bd v j
      omega
    · cases hy)
  exact ⟨Hv (by omega), n0, e1⟩
theorem wt_dg : ∀ (ys : List Int) (i : Nat) (hi : i < ys.length), dg (wt ys) i = ys[i] % 128
  | [], i, hi => by simp at hi
  | y :: ys, 0, _ => by simp [dg, wt_cons]
  | y :: ys, i + 1, hi => by
    have ih := wt_dg ys i (by simpa using hi)
    simp only [List.getElem_cons_succ]
    rw [← ih, dg, dg, wt_cons, Int.pow_succ, Int.mul_comm (128 ^ i) 128, ← Int.ediv_ediv_of_nonneg (by omega)]
    congr 2
    omega
/-- P2.4, the other way: what is read is just what is made of its number. -/
theorem vb_of_len {xs : List Int} (h8 : Bytes8 xs) {h : Nat} {x : Int} (hh : h ≤ 8) (hx : xs[h]? = some x) (h1 : x < 128) (hj : ∀ (j : Nat) y, j < h → xs[j]? = some y → 128 ≤ y) (hz : ¬ (0 < h ∧ x = 0)) :
    vb (wt (xs.take (h + 1))) = xs.take (h + 1) ∧ wt (xs.take (h + 1)) ≤ 9223372036854775807 := by
  have hlt : h < xs.length := by
    by_cases e : h < xs.length
    · exact e
    · rw [List.getElem?_eq_none (by omega)] at hx; cases hx
  have hxe : xs[h] = x := by rw [List.getElem?_eq_getElem hlt] at hx; simpa using hx
  have hl : (xs.take (h + 1)).length = h + 1 := by rw [List.length_take]; omega
  have hb := wt_bd (xs.take (h + 1))
  rw [hl] at hb
  have hb0 := wt_bd (xs.take h)
  have hstep := wt_take xs h hlt
  have hx0 := (h8 xs[h] (by simp)).1
  have hp : (0 : Int) < 128 ^ h := Int.pow_pos (by omega)
  have hsz : sz (wt (xs.take (h + 1))) = h + 1 := by
    refine sz_eq hh (fun hp0 => ?_) hb.2
    rw [hstep, hxe]
    have hx1 : 1 ≤ x % 128 := by
      have : x ≠ 0 := fun e => hz ⟨hp0, e⟩
      omega
    have := Int.mul_le_mul_of_nonneg_left hx1 (Int.le_of_lt hp)
    omega
  have hv : wt (xs.take (h + 1)) ≤ 9223372036854775807 := by have := pow_le9 (h + 1) (by omega); omega
  refine ⟨?_, hv⟩
  apply List.ext_getElem?
  intro j
  by_cases hjl : j < h + 1
  · rw [vb_get (by omega), hsz, wt_dg _ j (by omega), List.getElem?_eq_getElem (by omega)]
    have hjx : j < xs.length := by omega
    have hb8 := h8 xs[j] (by simp)
    simp only [List.getElem_take, Option.some.injEq]
    split
    · have := hj j xs[j] (by omega) (by rw [List.getElem?_eq_getElem hjx])
      omega
    · obtain rfl : j = h := by omega
      omega
  · rw [List.getElem?_eq_none (by rw [vb_length]; omega), List.getElem?_eq_none (by omega)]
theorem cell_at {w : World} {x : Addr} {xs : List Int} (hx : ∀ j u, (xs.map (Value.int .u8))[j]? = some u → w.cell? (x.add j) = some u) (k : Nat) (hk : k < xs.length) : w.cell? (x.add k) = some (.int .u8 xs[k]) :=
  hx k _ (by simp [hk])
theorem run_size5 (w : World) : (sizeOf (Tryd.prog.elem 22)).run Tryd.prog w = .ok 1 w := by kernel_rfl
theorem addr_add0 (x : Addr) : x.add 0 = x := by simp [Addr.add]
/-- 'b[:r]' of a list of bytes, whatever its address. -/
theorem slice_to (a : Option Addr) (len cap r : Nat) (h : r ≤ cap) (w : World) :
    (Instr.slice 22 (.slice a len cap) none (some (.int .i64 (r : Int))) none).run Tryd.prog w = .ok (.slice a r cap) w := by
  rw [run_slice_h (P := Tryd.prog) w 22 a len cap (by kernel_rfl) .i64 r (by omega) (by omega), run_size5]
  simp only [Result.andThen, sliced, Int.toNat_natCast, Nat.zero_mul, Nat.sub_zero]
  congr 2
  split
  · rfl
  · cases a <;> simp [addr_add0]
theorem oneCells (l : List Int) : ∀ u ∈ l.map (Value.int .u8), u.oneCell' = true := by
  intro u hu
  obtain ⟨x, _, rfl⟩ := List.mem_map.1 hu
  rfl
theorem chg_one (S : Nat → Prop) (w : World) (o : Obj) : Chg S w (w.alloc o) := (Chg.refl S w).alloc o
theorem chg_drewN {S : Nat → Prop} (w : World) (k : Nat) : Chg S w (w.drewN k) := ⟨rfl, rfl, rfl, Nat.le_refl _, fun _ _ _ => rfl⟩
theorem chg_then {S : Nat → Prop} {w w1 w2 : World} (hc : Chg S w w1) (hd : Chg (fun _ => False) w1 w2) : Chg S w w2 := hc.trans hd (fun _ f => f.elim)
theorem blk_keep {S : Nat → Prop} {w w' : World} {g : Nat} {o : Obj} (h : w.heap[g]? = some o) (hc : Chg S w w') (hS : ¬ S g) : w'.heap[g]? = some o := (hc.block g (lt_of_blk h) hS).trans h
theorem row8_one (w : World) (x : Int) (t : TypeId) : Row8 (w.alloc (.cells #[.int .u8 x] t)) (some ⟨w.heap.size, 0, none⟩) 1 1 [x] := by
  refine ⟨rfl, .inr ⟨_, rfl, ?_⟩⟩
  intro j u hu
  match j, hu with
  | 0, hu => simp at hu; subst hu; simp [Addr.add]
/-- A new list of bytes: the block and that it is whole. -/
theorem row8_blk {w : World} {g : Nat} {xs : List Int} (h : w.heap[g]? = some (.cells (cells8 xs).toArray 5 (0, 0))) (m : Nat) (hm : xs.length = m) (c : Nat) : Row8 w (some ⟨g, 0, none⟩) m c xs := by
  refine ⟨hm, .inr ⟨_, rfl, fun j u hu => ?_⟩⟩
  have hadd : (⟨g, 0, none⟩ : Addr).add j = ⟨g, j, none⟩ := by unfold Addr.add; split <;> simp_all
  rw [hadd, cell_of_row w g j _ 5 (0, 0) h]
  simpa [cells8] using hu
theorem own_of_blk {w : World} {B q n : Nat} {ys : List Int} (h : w.heap[q]? = some (.cells (cells8 ys).toArray 5 (0, 0))) (hB : B ≤ q) (hn : ys.length = n) (hm : n ≤ 140737488355328) : w.ownsRow B 5 1 (.slice (some ⟨q, 0, none⟩) n n) n (cells8 ys) := by
  refine ⟨by simp [cells8, hn], .inr ⟨q, n, (cells8 ys).toArray, rfl, hB, h, Nat.le_refl _, by unfold maxLen; omega, by simp [cells8, hn], ?_⟩⟩
  rw [Nat.mul_one, List.take_of_length_le (by simp [cells8, hn])]
theorem own_row8c {w : World} {B : Nat} {v : Value} {n : Nat} {bs : List Int} (h : w.ownsRow B 5 1 v n (cells8 bs)) : ∃ ad c, v = .slice ad n c ∧ Row8 w ad n c bs ∧ n ≤ c := by
  have hl : bs.length = n := by simpa [cells8] using h.1
  rcases h.2 with ⟨rfl, rfl⟩ | ⟨g, cap, cur, rfl, _, _, hnc, _⟩
  · exact ⟨none, 0, rfl, ⟨hl, .inl ⟨rfl, rfl, rfl⟩⟩, Nat.le_refl _⟩
  · exact ⟨_, cap, rfl, ⟨hl, .inr ⟨_, rfl, fun j u hu => h.cells (g := g) rfl j u hu⟩⟩, hnc⟩
theorem cells8_append (xs ys : List Int) : cells8 xs ++ cells8 ys = cells8 (xs ++ ys) := by simp [cells8]
theorem row8_alloc {w : World} {ad : Option Addr} {m c : Nat} {xs : List Int} (h : Row8 w ad m c xs) (o : Obj) : Row8 (w.alloc o) ad m c xs :=
  row8_keep h (chg_one (fun _ => False) w o) (fun _ _ f => f)
theorem row8_chg {w w' : World} {ad : Option Addr} {m c : Nat} {xs : List Int} (h : Row8 w ad m c xs) (hc : Chg (fun _ => False) w w') : Row8 w' ad m c xs :=
  row8_keep h hc (fun _ _ f => f)
/-- A list that came in lies in blocks that were there, if it has a byte; so no new block is one of its own. -/
theorem row8_old {w w' : World} {S : Nat → Prop} {ad : Option Addr} {m c : Nat} {xs : List Int} (h : Row8 w ad m c xs) (hc : Chg S w w') (hS : ∀ k, k < w.heap.size → ¬ S k) : Row8 w' ad m c xs := by
  refine ⟨h.1, ?_⟩
  rcases h.2 with e | ⟨x, rfl, hx⟩
  · exact .inl e
  · refine .inr ⟨x, rfl, fun j u hu => ?_⟩
    have h0 := hx j u hu
    have hlt := World.block_lt_of_cell? w _ h0
    rw [World.cell?_of_block (w := w) (hc.block _ hlt (hS _ hlt))]
    exact h0
theorem row8_take {w : World} {ad : Option Addr} {m c : Nat} {xs : List Int} (h : Row8 w ad m c xs) (r : Nat) (hr : r ≤ m) : Row8 w ad r c (xs.take r) := by
  have hl := h.1
  refine ⟨by simp; omega, ?_⟩
  rcases h.2 with ⟨rfl, rfl, rfl⟩ | ⟨x, rfl, hx⟩
  · exact .inl ⟨rfl, by omega, rfl⟩
  · refine .inr ⟨x, rfl, fun j u hu => hx j u ?_⟩
    rw [List.map_take, List.getElem?_take] at hu
    split at hu
    · exact hu
    · cases hu
/-- The bytes behind k rounds. -/
def upTo (v : Int) (k : Nat) : List Int := (List.range k).map fun i => dg v i + 128
theorem upTo_succ (v : Int) (k : Nat) : upTo v (k + 1) = upTo v k ++ [dg v k + 128] := by simp [upTo, List.range_succ]
theorem upTo_length (v : Int) (k : Nat) : (upTo v k).length = k := by simp [upTo]
theorem pow_up {v : Int} {k : Nat} (h : 128 ≤ v / 128 ^ k) : 128 ^ (k + 1) ≤ v := by
  have hp : (0 : Int) < 128 ^ k := Int.pow_pos (by omega)
  have := (Int.le_ediv_iff_mul_le hp).1 h
  rw [Int.pow_succ, Int.mul_comm]
  exact this
theorem upTo_end {v : Int} {k : Nat} (h0 : 0 ≤ v) (h1 : v ≤ 9223372036854775807) (hk : 0 < k → 128 ^ k ≤ v) (h : v / 128 ^ k < 128) : upTo v k ++ [v / 128 ^ k] = vb v ∧ sz v = k + 1 := by
  have hp : (0 : Int) < 128 ^ k := Int.pow_pos (by omega)
  have hq : 0 ≤ v / 128 ^ k := Int.ediv_nonneg h0 (Int.le_of_lt hp)
  have h8 : k ≤ 8 := by
    by_cases e : k ≤ 8
    · exact e
    · have := hk (by omega)
      have := pow_mono (show 9 ≤ k by omega)
      omega
  have hhi : v < 128 ^ (k + 1) := by
    have := Int.lt_mul_of_ediv_lt hp h
    rw [Int.pow_succ, Int.mul_comm]
    exact this
  have hs := sz_eq h8 hk hhi
  refine ⟨?_, hs⟩
  rw [vb, hs, putl, List.range_succ, List.map_append]
  congr 1
  · unfold upTo
    apply List.map_congr_left
    intro i hi
    have := List.mem_range.1 hi
    rw [if_pos (by omega)]
  · simp [dg]
    omega
theorem own_slice {w : World} {B : Nat} {v : Value} {n : Nat} {xs : List Value} (h : w.ownsRow B 5 1 v n xs) : ∃ ad c, v = .slice ad n c := by
  rcases own_shape h with ⟨rfl, rfl⟩ | ⟨g, cap, rfl⟩
  · exact ⟨none, 0, rfl⟩
  · exact ⟨_, cap, rfl⟩
end Go.Proofs.YtikokgngkagieaaDoor.Vint
