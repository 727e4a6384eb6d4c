/- Numbers' bytes and four bytes of a CRC as plain mathematics; of no statement by themselves. -/
import Derived.Test.YtikokgngkagieaaDoorVint
import Derived.Test.YtikokgngkagieaaDoorBy
import Derived.Test.YtikokgngkagieaaDoorCq
namespace Go.Proofs.YtikokgngkagieaaDoor
open Go.RowKit
set_option linter.unusedVariables false
set_option linter.unusedSimpArgs false
/-- A number's bytes. -/
def vbn (v : Nat) : List Nat := (Vint.vb (v : Int)).map Int.toNat
theorem nums_vbn (v : Nat) : nums (vbn v) = Vint.vb (v : Int) := by
  unfold nums vbn
  rw [List.map_map]
  conv => rhs; rw [← List.map_id (Vint.vb (v : Int))]
  apply List.map_congr_left
  intro x hx
  have := (Vint.vb_bytes (v : Int) x hx).1
  simp only [Function.comp, id]
  omega
theorem vbn_len (v : Nat) : (vbn v).length = Vint.sz (v : Int) := by
  unfold vbn
  rw [List.length_map, Vint.vb_length]
theorem vbn_le (v : Nat) : 1 ≤ (vbn v).length ∧ (vbn v).length ≤ 9 := by
  rw [vbn_len]
  obtain ⟨a, b, -, -⟩ := Vint.sz_is (v := (v : Int)) rfl
  exact ⟨a, b⟩
theorem vbn_dig (v : Nat) : Rc.Dig (vbn v) := fun x hx => by
  unfold vbn at hx
  obtain ⟨y, hy, rfl⟩ := List.mem_map.1 hx
  have := Vint.vb_bytes (v : Int) y hy
  omega
theorem dig_app {a b : List Nat} (ha : Rc.Dig a) (hb : Rc.Dig b) : Rc.Dig (a ++ b) := fun x hx => by
  rcases List.mem_append.1 hx with h | h
  · exact ha x h
  · exact hb x h
theorem dig_take {a : List Nat} (h : Rc.Dig a) (k : Nat) : Rc.Dig (a.take k) := fun x hx => h x (List.mem_of_mem_take hx)
theorem dig_drop {a : List Nat} (h : Rc.Dig a) (k : Nat) : Rc.Dig (a.drop k) := fun x hx => h x (List.mem_of_mem_drop hx)
theorem dig_b8 {a : List Nat} (h : Rc.Dig a) : Vint.Bytes8 (nums a) := fun x hx => by
  unfold nums at hx
  obtain ⟨y, hy, rfl⟩ := List.mem_map.1 hx
  have := h y hy
  omega
theorem nums_app (a b : List Nat) : nums (a ++ b) = nums a ++ nums b := by simp [nums]
theorem nums_take (a : List Nat) (k : Nat) : nums (a.take k) = (nums a).take k := by simp [nums, List.map_take]
theorem nums_inj {a b : List Nat} (h : nums a = nums b) : a = b := by
  induction a generalizing b with
  | nil => cases b with
    | nil => rfl
    | cons y b => simp [nums] at h
  | cons x a ih => cases b with
    | nil => simp [nums] at h
    | cons y b =>
      simp only [nums, List.map_cons, List.cons.injEq] at h
      obtain ⟨h1, h2⟩ := h
      rw [ih h2]
      congr 1
      omega
/-- Of all bytes something is told. -/
theorem getIs_ex (xs : List Int) : ∃ v n e, Vint.GetIs xs v n e := by
  have key : ∀ m : Nat, (∃ (h : Nat) (x : Int), h < m ∧ xs[h]? = some x ∧ x < 128 ∧ ∀ (j : Nat) y, j < h → xs[j]? = some y → 128 ≤ y) ∨ ∀ (j : Nat) y, j < m → xs[j]? = some y → 128 ≤ y := by
    intro m
    induction m with
    | zero => exact .inr fun j y hj => by omega
    | succ m ih =>
      rcases ih with ⟨h, x, a, b⟩ | ih
      · exact .inl ⟨h, x, by omega, b⟩
      · cases hm : xs[m]? with
        | none =>
          refine .inr (fun j y hj hy => ?_)
          by_cases e : j = m
          · subst e; rw [hm] at hy; cases hy
          · exact ih j y (by omega) hy
        | some x =>
          by_cases hx : x < 128
          · exact .inl ⟨m, x, by omega, hm, hx, ih⟩
          · refine .inr (fun j y hj hy => ?_)
            by_cases e : j = m
            · subst e; rw [hm] at hy; simp only [Option.some.injEq] at hy; omega
            · exact ih j y (by omega) hy
  rcases key 9 with ⟨h, x, a, b, c, d⟩ | k
  · by_cases hz : 0 < h ∧ x = 0
    · exact ⟨0, 0, 2, .inr (.inr ⟨h, x, by omega, b, c, d, .inl ⟨hz.1, hz.2, rfl, rfl⟩⟩), fun f => by omega, fun _ => rfl⟩
    · exact ⟨Vint.wt (xs.take ((h : Int) + 1).toNat), (h : Int) + 1, 0, .inr (.inr ⟨h, x, by omega, b, c, d, .inr ⟨hz, rfl, rfl⟩⟩), fun _ => rfl, fun f => (f rfl).elim⟩
  · by_cases hl : xs.length ≤ 8
    · exact ⟨0, 0, 1, .inl ⟨rfl, rfl, hl, fun j y hy => k j y (by have := (List.getElem?_eq_some_iff.1 hy).1; omega) hy⟩, fun f => by omega, fun _ => rfl⟩
    · exact ⟨0, 0, 2, .inr (.inl ⟨rfl, rfl, by omega, k⟩), fun f => by omega, fun _ => rfl⟩
theorem len_unique {xs : List Int} {n e n' e' : Int} (A : Vint.LenIs xs n e) (B : Vint.LenIs xs n' e') : n' = n ∧ e' = e := by
  rcases A with ⟨rfl, rfl, a, b⟩ | ⟨rfl, rfl, a, b⟩ | ⟨h, x, a, b, c, d, r⟩
  · exact (B.cut a b).symm
  · rcases B with ⟨_, _, k, _⟩ | ⟨rfl, rfl, _⟩ | ⟨h', x', a', b', c', d', r'⟩
    · omega
    · exact ⟨rfl, rfl⟩
    · have := b h' x' (by omega) b'
      omega
  · rcases r with ⟨r1, r2, rfl, rfl⟩ | ⟨r1, rfl, rfl⟩
    · rcases B with ⟨_, _, k, l⟩ | ⟨rfl, rfl, _⟩ | ⟨h', x', a', b', c', d', r'⟩
      · have := l h x b
        omega
      · exact ⟨rfl, rfl⟩
      · have e1 : ¬ h < h' := fun hl => by have := d' h x hl b; omega
        have e2 : ¬ h' < h := fun hl => by have := d h' x' hl b'; omega
        obtain rfl : h' = h := by omega
        rw [b] at b'
        simp only [Option.some.injEq] at b'
        subst b'
        rcases r' with ⟨_, _, rfl, rfl⟩ | ⟨q, _⟩
        · exact ⟨rfl, rfl⟩
        · exact (q ⟨r1, r2⟩).elim
    · exact (B.ok a b c d r1).symm
theorem get_unique {xs : List Int} {v n e v' n' e' : Int} (A : Vint.GetIs xs v n e) (B : Vint.GetIs xs v' n' e') : v' = v ∧ n' = n ∧ e' = e := by
  obtain ⟨rfl, rfl⟩ := len_unique A.1 B.1
  refine ⟨?_, rfl, rfl⟩
  by_cases h : e' = 0
  · rw [A.2.1 h, B.2.1 h]
  · rw [A.2.2 h, B.2.2 h]
/-- What Get tells of bytes: the number, how many bytes it has, the error. -/
noncomputable def getN (bs : List Nat) : Nat × Nat × Int :=
  let t := Classical.choose (getIs_ex (nums bs))
  let n := Classical.choose (Classical.choose_spec (getIs_ex (nums bs)))
  let e := Classical.choose (Classical.choose_spec (Classical.choose_spec (getIs_ex (nums bs))))
  (t.toNat, n.toNat, e)
theorem getIs_pos {xs : List Int} {v n e : Int} (A : Vint.GetIs xs v n e) : 0 ≤ v ∧ 0 ≤ n ∧ n ≤ 9 ∧ n ≤ xs.length ∧ (e = 0 ∧ 1 ≤ n ∨ (e = 1 ∨ e = 2) ∧ n = 0 ∧ v = 0) := by
  obtain ⟨L, h0, h1⟩ := A
  have hv : 0 ≤ v := by
    by_cases e0 : e = 0
    · rw [h0 e0]; exact (Vint.wt_bd _).1
    · rw [h1 e0]; omega
  rcases L with ⟨rfl, rfl, a, b⟩ | ⟨rfl, rfl, a, b⟩ | ⟨h, x, a, b, c, d, r⟩
  · exact ⟨hv, by omega, by omega, by omega, .inr ⟨.inl rfl, rfl, h1 (by omega)⟩⟩
  · exact ⟨hv, by omega, by omega, by omega, .inr ⟨.inr rfl, rfl, h1 (by omega)⟩⟩
  · have hl := (List.getElem?_eq_some_iff.1 b).1
    rcases r with ⟨r1, r2, rfl, rfl⟩ | ⟨r1, rfl, rfl⟩
    · exact ⟨hv, by omega, by omega, by omega, .inr ⟨.inr rfl, rfl, h1 (by omega)⟩⟩
    · exact ⟨hv, by omega, by omega, by omega, .inl ⟨rfl, by omega⟩⟩
theorem getN_is (bs : List Nat) : Vint.GetIs (nums bs) ((getN bs).1 : Int) ((getN bs).2.1 : Int) (getN bs).2.2 := by
  have h := Classical.choose_spec (Classical.choose_spec (Classical.choose_spec (getIs_ex (nums bs))))
  obtain ⟨p0, p1, _⟩ := getIs_pos h
  unfold getN
  simp only
  rw [Int.toNat_of_nonneg p0, Int.toNat_of_nonneg p1]
  exact h
theorem getN_of {bs : List Nat} {v n e : Int} (h : Vint.GetIs (nums bs) v n e) : v = ((getN bs).1 : Int) ∧ n = ((getN bs).2.1 : Int) ∧ e = (getN bs).2.2 := get_unique (getN_is bs) h
theorem getN_pos (bs : List Nat) : (getN bs).2.1 ≤ 9 ∧ (getN bs).2.1 ≤ bs.length ∧ ((getN bs).2.2 = 0 ∧ 1 ≤ (getN bs).2.1 ∨ ((getN bs).2.2 = 1 ∨ (getN bs).2.2 = 2) ∧ (getN bs).2.1 = 0 ∧ (getN bs).1 = 0) := by
  have h := getIs_pos (getN_is bs)
  rw [nums_len] at h
  omega
theorem getN_vbn {v : Nat} (hv : v ≤ 9223372036854775807) (t : List Nat) : getN (vbn v ++ t) = (v, (vbn v).length, 0) := by
  have h := getN_is (vbn v ++ t)
  rw [nums_app, nums_vbn] at h
  obtain ⟨a, b, c⟩ := Vint.get_vb (v := (v : Int)) (by omega) (by omega) h
  rw [vbn_len]
  have e1 : (getN (vbn v ++ t)).1 = v := by omega
  have e2 : (getN (vbn v ++ t)).2.1 = Vint.sz (v : Int) := by omega
  generalize getN (vbn v ++ t) = g at *
  obtain ⟨g1, g2, g3⟩ := g
  simp only at e1 e2 c
  rw [e1, e2, c]
theorem getN_cut {v : Nat} (hv : v ≤ 9223372036854775807) {c : Nat} (hc : c < (vbn v).length) : getN ((vbn v).take c) = (0, 0, 1) := by
  have h := getN_is ((vbn v).take c)
  rw [nums_take, nums_vbn] at h
  rw [vbn_len] at hc
  obtain ⟨a, b, e⟩ := Vint.get_cut (v := (v : Int)) (by omega) hc h
  generalize getN ((vbn v).take c) = g at *
  obtain ⟨g1, g2, g3⟩ := g
  simp only at a b e
  rw [e, show g1 = 0 by omega, show g2 = 0 by omega]
/-- What is read is just what is made of its number. -/
theorem getN_back {bs : List Nat} (h8 : Rc.Dig bs) (h0 : (getN bs).2.2 = 0) : vbn (getN bs).1 = bs.take (getN bs).2.1 ∧ (getN bs).1 ≤ 9223372036854775807 := by
  obtain ⟨L, hv, -⟩ := getN_is bs
  rcases L with ⟨e, _⟩ | ⟨e, _⟩ | ⟨h, x, a, b, c, d, ⟨_, _, e, _⟩ | ⟨r1, _, r3⟩⟩
  · omega
  · omega
  · omega
  · obtain ⟨k1, k2⟩ := Vint.vb_of_len (dig_b8 h8) a b c d r1
    have hv := hv h0
    rw [r3, show ((h : Int) + 1).toNat = h + 1 by omega] at hv
    rw [← hv] at k1 k2
    have hn : (getN bs).2.1 = h + 1 := by omega
    refine ⟨nums_inj ?_, by omega⟩
    rw [nums_vbn, k1, nums_take, hn]
/-- The CRC-32 as four bytes. -/
def crc4 (bs : List Nat) : List Nat := Cq.Crc.low (Cq.Crc.more Cq.Crc.P32 32 0 bs) 4
theorem low_len (v n : Nat) : (Cq.Crc.low v n).length = n := by
  induction n generalizing v with
  | zero => rfl
  | succ n ih => simp [Cq.Crc.low, ih]
theorem low_dig (v n : Nat) : Rc.Dig (Cq.Crc.low v n) := by
  induction n generalizing v with
  | zero => exact fun x hx => by cases hx
  | succ n ih =>
    intro x hx
    rcases List.mem_cons.1 hx with rfl | hx
    · omega
    · exact ih _ x hx
theorem crc4_len (bs : List Nat) : (crc4 bs).length = 4 := low_len _ _
theorem crc4_dig (bs : List Nat) : Rc.Dig (crc4 bs) := low_dig _ _
theorem more_dig {bs : List Nat} (h : Rc.Dig bs) : Cq.Crc.more Cq.Crc.P32 32 0 bs < 4294967296 := Cq.more32_lt h (by decide)
/-- Bytes with their own sum behind them have one sum. -/
theorem crc_own {bs : List Nat} (h : Rc.Dig bs) : Cq.Crc.more Cq.Crc.P32 32 0 (bs ++ crc4 bs) = Cq.Crc.more Cq.Crc.P32 32 0 [0, 0, 0, 0] := by
  have := Cq.Crc.more_own Cq.Crc.P32 4 bs (more_dig h)
  exact this
/-- Bits turned in bytes with their own sum behind them: then that is not their sum. -/
theorem crc_told {xs l : List Nat} {at_ M : Nat} (h : Cq.Turned xs l at_ 32 M) (hx : ∃ b, Rc.Dig b ∧ xs = b ++ crc4 b) (hl : ∃ b, Rc.Dig b ∧ l = b ++ crc4 b) : M = 0 := by
  obtain ⟨b, hb, rfl⟩ := hx
  obtain ⟨c, hc, rfl⟩ := hl
  by_cases e : M = 0
  · exact e
  · have := (Cq.told32 (q := 1) h ⟨fun f => by omega, fun f => absurd f e⟩).1 (by rw [crc_own hb, crc_own hc])
    omega
theorem byte_injH {a b : Int} (ha : 0 ≤ a ∧ a ≤ 255) (hb : 0 ≤ b ∧ b ≤ 255) (h : UInt8.ofNat a.toNat = UInt8.ofNat b.toNat) : a = b := by
  have h2 := congrArg UInt8.toNat h
  simp only [UInt8.toNat_ofNat'] at h2
  omega
theorem map_injH : ∀ {xs ys : List Int}, Vint.Bytes8 xs → Vint.Bytes8 ys → (xs.map fun n => UInt8.ofNat n.toNat) = (ys.map fun n => UInt8.ofNat n.toNat) → xs = ys
  | [], [], _, _, _ => rfl
  | [], y :: ys, _, _, h => by simp at h
  | x :: xs, [], _, _, h => by simp at h
  | x :: xs, y :: ys, hx, hy, h => by
    simp only [List.map_cons, List.cons.injEq] at h
    rw [byte_injH (hx x (by simp)) (hy y (by simp)) h.1, map_injH (fun z hz => hx z (by simp [hz])) (fun z hz => hy z (by simp [hz])) h.2]
/-- Two lists of bytes as strings: are they one? -/
theorem str_neqH {a b : List Nat} (ha : Rc.Dig a) (hb : Rc.Dig b) : (!((strOfNums (nums a)).toList == (strOfNums (nums b)).toList)) = decide (a ≠ b) := by
  by_cases h : a = b
  · subst h; simp
  · have hn : ¬ (strOfNums (nums a)).toList = (strOfNums (nums b)).toList := fun e => h (nums_inj (map_injH (dig_b8 ha) (dig_b8 hb) (by rw [← strOfNums_data, ← strOfNums_data, ← ByteArray.toList_eq, ← ByteArray.toList_eq, e])))
    simp [h, hn]
end Go.Proofs.YtikokgngkagieaaDoor
