/- Filters and their bytes as plain mathematics; of no statement by themselves. -/
import Derived.Test.YtmkiohnabbfkcaaDoorVint
import Derived.Test.YtmkiohnabbfkcaaDoorCm
import Derived.Test.YtmkiohnabbfkcaaDoorBy
namespace Go.Proofs.YtmkiohnabbfkcaaDoor
open Go.RowKit
open St12
set_option linter.unusedVariables false
set_option linter.unusedSimpArgs false
/-- A number's bytes. -/
def vbn (v : Nat) : List Nat := (Vint.vb (v : Int)).map Int.toNat
theorem nums_vbn (v : Nat) : nums (vbn v) = Vint.vb (v : Int) := by
  unfold nums vbn
  rw [List.map_map]
  conv => rhs; rw [← List.map_id (Vint.vb (v : Int))]
  apply List.map_congr_left
  intro x hx
  have := (Vint.vb_bytes (v : Int) x hx).1
  simp only [Function.comp, id]
  omega
theorem vbn_len (v : Nat) : (vbn v).length = Vint.sz (v : Int) := by
  unfold vbn
  rw [List.length_map, Vint.vb_length]
theorem vbn_le (v : Nat) : 1 ≤ (vbn v).length ∧ (vbn v).length ≤ 9 := by
  rw [vbn_len]
  obtain ⟨a, b, -, -⟩ := Vint.sz_is (v := (v : Int)) rfl
  exact ⟨a, b⟩
theorem vbn_dig (v : Nat) : Rc.Dig (vbn v) := fun x hx => by
  unfold vbn at hx
  obtain ⟨y, hy, rfl⟩ := List.mem_map.1 hx
  have := Vint.vb_bytes (v : Int) y hy
  omega
theorem dig_app {a b : List Nat} (ha : Rc.Dig a) (hb : Rc.Dig b) : Rc.Dig (a ++ b) := fun x hx => by
  rcases List.mem_append.1 hx with h | h
  · exact ha x h
  · exact hb x h
theorem dig_take {a : List Nat} (h : Rc.Dig a) (k : Nat) : Rc.Dig (a.take k) := fun x hx => h x (List.mem_of_mem_take hx)
theorem dig_drop {a : List Nat} (h : Rc.Dig a) (k : Nat) : Rc.Dig (a.drop k) := fun x hx => h x (List.mem_of_mem_drop hx)
theorem dig_b8 {a : List Nat} (h : Rc.Dig a) : Vint.Bytes8 (nums a) := fun x hx => by
  unfold nums at hx
  obtain ⟨y, hy, rfl⟩ := List.mem_map.1 hx
  have := h y hy
  omega
theorem nums_app (a b : List Nat) : nums (a ++ b) = nums a ++ nums b := by simp [nums]
theorem nums_take (a : List Nat) (k : Nat) : nums (a.take k) = (nums a).take k := by simp [nums, List.map_take]
theorem nums_inj {a b : List Nat} (h : nums a = nums b) : a = b := by
  induction a generalizing b with
  | nil => cases b with
    | nil => rfl
    | cons y b => simp [nums] at h
  | cons x a ih => cases b with
    | nil => simp [nums] at h
    | cons y b =>
      simp only [nums, List.map_cons, List.cons.injEq] at h
      obtain ⟨h1, h2⟩ := h
      rw [ih h2]
      congr 1
      omega
/-- Of all bytes something is told. -/
theorem getIs_ex (xs : List Int) : ∃ v n e, Vint.GetIs xs v n e := by
  have key : ∀ m : Nat, (∃ (h : Nat) (x : Int), h < m ∧ xs[h]? = some x ∧ x < 128 ∧ ∀ (j : Nat) y, j < h → xs[j]? = some y → 128 ≤ y) ∨ ∀ (j : Nat) y, j < m → xs[j]? = some y → 128 ≤ y := by
    intro m
    induction m with
    | zero => exact .inr fun j y hj => by omega
    | succ m ih =>
      rcases ih with ⟨h, x, a, b⟩ | ih
      · exact .inl ⟨h, x, by omega, b⟩
      · cases hm : xs[m]? with
        | none =>
          refine .inr (fun j y hj hy => ?_)
          by_cases e : j = m
          · subst e; rw [hm] at hy; cases hy
          · exact ih j y (by omega) hy
        | some x =>
          by_cases hx : x < 128
          · exact .inl ⟨m, x, by omega, hm, hx, ih⟩
          · refine .inr (fun j y hj hy => ?_)
            by_cases e : j = m
            · subst e; rw [hm] at hy; simp only [Option.some.injEq] at hy; omega
            · exact ih j y (by omega) hy
  rcases key 9 with ⟨h, x, a, b, c, d⟩ | k
  · by_cases hz : 0 < h ∧ x = 0
    · exact ⟨0, 0, 2, .inr (.inr ⟨h, x, by omega, b, c, d, .inl ⟨hz.1, hz.2, rfl, rfl⟩⟩), fun f => by omega, fun _ => rfl⟩
    · exact ⟨Vint.wt (xs.take ((h : Int) + 1).toNat), (h : Int) + 1, 0, .inr (.inr ⟨h, x, by omega, b, c, d, .inr ⟨hz, rfl, rfl⟩⟩), fun _ => rfl, fun f => (f rfl).elim⟩
  · by_cases hl : xs.length ≤ 8
    · exact ⟨0, 0, 1, .inl ⟨rfl, rfl, hl, fun j y hy => k j y (by have := (List.getElem?_eq_some_iff.1 hy).1; omega) hy⟩, fun f => by omega, fun _ => rfl⟩
    · exact ⟨0, 0, 2, .inr (.inl ⟨rfl, rfl, by omega, k⟩), fun f => by omega, fun _ => rfl⟩
theorem len_unique {xs : List Int} {n e n' e' : Int} (A : Vint.LenIs xs n e) (B : Vint.LenIs xs n' e') : n' = n ∧ e' = e := by
  rcases A with ⟨rfl, rfl, a, b⟩ | ⟨rfl, rfl, a, b⟩ | ⟨h, x, a, b, c, d, r⟩
  · exact (B.cut a b).symm
  · rcases B with ⟨_, _, k, _⟩ | ⟨rfl, rfl, _⟩ | ⟨h', x', a', b', c', d', r'⟩
    · omega
    · exact ⟨rfl, rfl⟩
    · have := b h' x' (by omega) b'
      omega
  · rcases r with ⟨r1, r2, rfl, rfl⟩ | ⟨r1, rfl, rfl⟩
    · rcases B with ⟨_, _, k, l⟩ | ⟨rfl, rfl, _⟩ | ⟨h', x', a', b', c', d', r'⟩
      · have := l h x b
        omega
      · exact ⟨rfl, rfl⟩
      · have e1 : ¬ h < h' := fun hl => by have := d' h x hl b; omega
        have e2 : ¬ h' < h := fun hl => by have := d h' x' hl b'; omega
        obtain rfl : h' = h := by omega
        rw [b] at b'
        simp only [Option.some.injEq] at b'
        subst b'
        rcases r' with ⟨_, _, rfl, rfl⟩ | ⟨q, _⟩
        · exact ⟨rfl, rfl⟩
        · exact (q ⟨r1, r2⟩).elim
    · exact (B.ok a b c d r1).symm
theorem get_unique {xs : List Int} {v n e v' n' e' : Int} (A : Vint.GetIs xs v n e) (B : Vint.GetIs xs v' n' e') : v' = v ∧ n' = n ∧ e' = e := by
  obtain ⟨rfl, rfl⟩ := len_unique A.1 B.1
  refine ⟨?_, rfl, rfl⟩
  by_cases h : e' = 0
  · rw [A.2.1 h, B.2.1 h]
  · rw [A.2.2 h, B.2.2 h]
/-- What Get tells of bytes: the number, how many bytes it has, the error. -/
noncomputable def getN (bs : List Nat) : Nat × Nat × Int :=
  let t := Classical.choose (getIs_ex (nums bs))
  let n := Classical.choose (Classical.choose_spec (getIs_ex (nums bs)))
  let e := Classical.choose (Classical.choose_spec (Classical.choose_spec (getIs_ex (nums bs))))
  (t.toNat, n.toNat, e)
theorem getIs_pos {xs : List Int} {v n e : Int} (A : Vint.GetIs xs v n e) : 0 ≤ v ∧ 0 ≤ n ∧ n ≤ 9 ∧ n ≤ xs.length ∧ (e = 0 ∧ 1 ≤ n ∨ (e = 1 ∨ e = 2) ∧ n = 0 ∧ v = 0) := by
  obtain ⟨L, h0, h1⟩ := A
  have hv : 0 ≤ v := by
    by_cases e0 : e = 0
    · rw [h0 e0]; exact (Vint.wt_bd _).1
    · rw [h1 e0]; omega
  rcases L with ⟨rfl, rfl, a, b⟩ | ⟨rfl, rfl, a, b⟩ | ⟨h, x, a, b, c, d, r⟩
  · exact ⟨hv, by omega, by omega, by omega, .inr ⟨.inl rfl, rfl, h1 (by omega)⟩⟩
  · exact ⟨hv, by omega, by omega, by omega, .inr ⟨.inr rfl, rfl, h1 (by omega)⟩⟩
  · have hl := (List.getElem?_eq_some_iff.1 b).1
    rcases r with ⟨r1, r2, rfl, rfl⟩ | ⟨r1, rfl, rfl⟩
    · exact ⟨hv, by omega, by omega, by omega, .inr ⟨.inr rfl, rfl, h1 (by omega)⟩⟩
    · exact ⟨hv, by omega, by omega, by omega, .inl ⟨rfl, by omega⟩⟩
theorem getN_is (bs : List Nat) : Vint.GetIs (nums bs) ((getN bs).1 : Int) ((getN bs).2.1 : Int) (getN bs).2.2 := by
  have h := Classical.choose_spec (Classical.choose_spec (Classical.choose_spec (getIs_ex (nums bs))))
  obtain ⟨p0, p1, _⟩ := getIs_pos h
  unfold getN
  simp only
  rw [Int.toNat_of_nonneg p0, Int.toNat_of_nonneg p1]
  exact h
theorem getN_of {bs : List Nat} {v n e : Int} (h : Vint.GetIs (nums bs) v n e) : v = ((getN bs).1 : Int) ∧ n = ((getN bs).2.1 : Int) ∧ e = (getN bs).2.2 := get_unique (getN_is bs) h
theorem getN_pos (bs : List Nat) : (getN bs).2.1 ≤ 9 ∧ (getN bs).2.1 ≤ bs.length ∧ ((getN bs).2.2 = 0 ∧ 1 ≤ (getN bs).2.1 ∨ ((getN bs).2.2 = 1 ∨ (getN bs).2.2 = 2) ∧ (getN bs).2.1 = 0 ∧ (getN bs).1 = 0) := by
  have h := getIs_pos (getN_is bs)
  rw [nums_len] at h
  omega
theorem getN_vbn {v : Nat} (hv : v ≤ 9223372036854775807) (t : List Nat) : getN (vbn v ++ t) = (v, (vbn v).length, 0) := by
  have h := getN_is (vbn v ++ t)
  rw [nums_app, nums_vbn] at h
  obtain ⟨a, b, c⟩ := Vint.get_vb (v := (v : Int)) (by omega) (by omega) h
  rw [vbn_len]
  have e1 : (getN (vbn v ++ t)).1 = v := by omega
  have e2 : (getN (vbn v ++ t)).2.1 = Vint.sz (v : Int) := by omega
  generalize getN (vbn v ++ t) = g at *
  obtain ⟨g1, g2, g3⟩ := g
  simp only at e1 e2 c
  rw [e1, e2, c]
theorem getN_cut {v : Nat} (hv : v ≤ 9223372036854775807) {c : Nat} (hc : c < (vbn v).length) : getN ((vbn v).take c) = (0, 0, 1) := by
  have h := getN_is ((vbn v).take c)
  rw [nums_take, nums_vbn] at h
  rw [vbn_len] at hc
  obtain ⟨a, b, e⟩ := Vint.get_cut (v := (v : Int)) (by omega) hc h
  generalize getN ((vbn v).take c) = g at *
  obtain ⟨g1, g2, g3⟩ := g
  simp only at a b e
  rw [e, show g1 = 0 by omega, show g2 = 0 by omega]
/-- What is read is just what is made of its number. -/
theorem getN_back {bs : List Nat} (h8 : Rc.Dig bs) (h0 : (getN bs).2.2 = 0) : vbn (getN bs).1 = bs.take (getN bs).2.1 ∧ (getN bs).1 ≤ 9223372036854775807 := by
  obtain ⟨L, hv, -⟩ := getN_is bs
  rcases L with ⟨e, _⟩ | ⟨e, _⟩ | ⟨h, x, a, b, c, d, ⟨_, _, e, _⟩ | ⟨r1, _, r3⟩⟩
  · omega
  · omega
  · omega
  · obtain ⟨k1, k2⟩ := Vint.vb_of_len (dig_b8 h8) a b c d r1
    have hv := hv h0
    rw [r3, show ((h : Int) + 1).toNat = h + 1 by omega] at hv
    rw [← hv] at k1 k2
    have hn : (getN bs).2.1 = h + 1 := by omega
    refine ⟨nums_inj ?_, by omega⟩
    rw [nums_vbn, k1, nums_take, hn]
/-- A filter. -/
structure Flt where
  id : Nat
  ps : List Nat
/-- A configuration. -/
structure Cfg where
  ch : Int
  de : Int
  lc : Int
  lp : Int
  pb : Int
  di : Int
  bl : Int
  mo : Int
namespace Cn20
def zeroF : Flt := ⟨0, []⟩
/-- What Put answers. -/
def putF (f : Flt) : List Nat × Int := if 9223372036854775807 < f.id then ([], 7) else (vbn f.id ++ vbn f.ps.length ++ f.ps, 0)
/-- What Get answers. -/
noncomputable def getF (bs : List Nat) : Flt × Nat × Int :=
  if (getN bs).2.2 ≠ 0 then (zeroF, 0, (getN bs).2.2)
  else if (getN (bs.drop (getN bs).2.1)).2.2 ≠ 0 then (zeroF, 0, (getN (bs.drop (getN bs).2.1)).2.2)
  else if bs.length - (getN bs).2.1 - (getN (bs.drop (getN bs).2.1)).2.1 < (getN (bs.drop (getN bs).2.1)).1 then (zeroF, 0, 1)
  else (⟨(getN bs).1, (bs.drop ((getN bs).2.1 + (getN (bs.drop (getN bs).2.1)).2.1)).take (getN (bs.drop (getN bs).2.1)).1⟩, (getN bs).2.1 + (getN (bs.drop (getN bs).2.1)).2.1 + (getN (bs.drop (getN bs).2.1)).1, 0)
def one (f : Flt) (id : Nat) : Option Nat := if f.id = id then match f.ps with | [x] => some x | _ => none else none
/-- What Read answers. -/
def readF : List Flt → Int × Int × Int
  | [a] => match one a 33 with
    | some x => if x ≤ 40 then (0, (Ck17.dic x : Nat), 0) else (0, 0, 4)
    | none => (0, 0, 4)
  | [a, b] => match one a 3, one b 33 with
    | some y, some x => if x ≤ 40 then ((y : Int) + 1, (Ck17.dic x : Nat), 0) else (0, 0, 4)
    | _, _ => (0, 0, 4)
  | _ => (0, 0, 4)
/-- What Legal answers. -/
def legal (c : Cfg) : Int :=
  if (c.ch = 0 ∨ c.ch = 1 ∨ c.ch = 4 ∨ c.ch = 10) ∧ (0 ≤ c.lc ∧ 0 ≤ c.lp ∧ 0 ≤ c.pb ∧ c.lc ≤ 4 ∧ c.lp ≤ 4 ∧ c.lc + c.lp ≤ 4 ∧ c.pb ≤ 4) ∧ 0 ≤ c.de ∧ c.de ≤ 256 ∧ 4096 ≤ c.di ∧ c.di ≤ 67108864 ∧ 1 ≤ c.bl ∧ c.bl ≤ 2147483648 ∧ 0 ≤ c.mo ∧ c.mo ≤ 2 then 0 else 6
/-- What Of answers. -/
def ofF (c : Cfg) : List Flt × Int :=
  if legal c ≠ 0 then ([], 6)
  else ((if c.de = 0 then [] else [⟨3, [(c.de - 1).toNat]⟩]) ++ [⟨33, [(Ck17.dictB c.di).1.toNat]⟩], 0)
theorem put_ok {f : Flt} (h : f.id ≤ 9223372036854775807) : putF f = (vbn f.id ++ vbn f.ps.length ++ f.ps, 0) := by unfold putF; rw [if_neg (by omega)]
theorem put_dig {f : Flt} (h : Rc.Dig f.ps) : Rc.Dig (putF f).1 := by
  unfold putF
  split
  · exact fun x hx => by cases hx
  · exact dig_app (dig_app (vbn_dig _) (vbn_dig _)) h
/-- There and back. -/
theorem get_put {f : Flt} (h : f.id ≤ 9223372036854775807) (hp : f.ps.length ≤ 9223372036854775807) (t : List Nat) : getF ((putF f).1 ++ t) = (f, (putF f).1.length, 0) := by
  rw [put_ok h]
  simp only
  have e1 : vbn f.id ++ vbn f.ps.length ++ f.ps ++ t = vbn f.id ++ (vbn f.ps.length ++ (f.ps ++ t)) := by simp
  have g1 := getN_vbn h (vbn f.ps.length ++ (f.ps ++ t))
  have g2 := getN_vbn hp (f.ps ++ t)
  unfold getF
  rw [e1, g1]
  simp only [List.drop_left, g2]
  rw [if_neg (by omega), if_neg (by omega), if_neg (by simp)]
  rw [← List.append_assoc, ← List.length_append, List.drop_left, List.take_left]
  simp only [List.length_append]
theorem vbn_pos (v : Nat) : 0 < (vbn v).length := (vbn_le v).1
/-- A proper beginning is cut off. -/
theorem get_cut {f : Flt} (h : f.id ≤ 9223372036854775807) (hp : f.ps.length ≤ 9223372036854775807) {c : Nat} (hc : c < (putF f).1.length) : getF ((putF f).1.take c) = (zeroF, 0, 1) := by
  rw [put_ok h] at hc ⊢
  simp only [List.length_append] at hc ⊢
  rw [List.append_assoc]
  unfold getF
  by_cases h1 : c < (vbn f.id).length
  · rw [List.take_append_of_le_length (by omega), getN_cut h h1]
    simp
  · have e1 : (vbn f.id ++ (vbn f.ps.length ++ f.ps)).take c = vbn f.id ++ (vbn f.ps.length ++ f.ps).take (c - (vbn f.id).length) := by
      rw [List.take_append, List.take_of_length_le (by omega)]
    rw [e1, getN_vbn h]
    simp only [List.drop_left]
    rw [if_neg (by omega)]
    generalize hd : c - (vbn f.id).length = d
    by_cases h2 : d < (vbn f.ps.length).length
    · rw [List.take_append_of_le_length (by omega), getN_cut hp h2]
      simp
    · have e2 : (vbn f.ps.length ++ f.ps).take d = vbn f.ps.length ++ f.ps.take (d - (vbn f.ps.length).length) := by
        rw [List.take_append, List.take_of_length_le (by omega)]
      rw [e2, getN_vbn hp]
      rw [if_neg (by simp), if_pos (by simp only [List.length_append, List.length_take]; omega)]
theorem get_pos (bs : List Nat) : (getF bs).2.1 ≤ bs.length ∧ ((getF bs).2.2 = 0 ∨ ((getF bs).2.2 = 1 ∨ (getF bs).2.2 = 2) ∧ (getF bs).2.1 = 0 ∧ (getF bs).1 = zeroF) := by
  have h1 := getN_pos bs
  have h2 := getN_pos (bs.drop (getN bs).2.1)
  rw [List.length_drop] at h2
  unfold getF
  split
  · exact ⟨by simp, .inr ⟨by simp only; omega, rfl, rfl⟩⟩
  · split
    · exact ⟨by simp, .inr ⟨by simp only; omega, rfl, rfl⟩⟩
    · split
      · exact ⟨by simp, .inr ⟨by simp, rfl, rfl⟩⟩
      · exact ⟨by simp only; omega, .inl rfl⟩
theorem get_dig {bs : List Nat} (h : Rc.Dig bs) : Rc.Dig (getF bs).1.ps := by
  unfold getF
  split
  · exact fun x hx => by cases hx
  · split
    · exact fun x hx => by cases hx
    · split
      · exact fun x hx => by cases hx
      · exact dig_take (dig_drop h _) _
/-- What is read is what is laid of it. -/
theorem get_back {bs : List Nat} (h8 : Rc.Dig bs) (h0 : (getF bs).2.2 = 0) : putF (getF bs).1 = (bs.take (getF bs).2.1, 0) ∧ (getF bs).1.id ≤ 9223372036854775807 ∧ (getF bs).1.ps.length ≤ (getF bs).2.1 := by
  have p1 := getN_pos bs
  have p2 := getN_pos (bs.drop (getN bs).2.1)
  rw [List.length_drop] at p2
  unfold getF at h0 ⊢
  split at h0
  · rename_i h; exact absurd h0 h
  · rename_i h
    have h := Decidable.not_not.1 h
    split at h0
    · rename_i k; exact absurd h0 k
    · rename_i k
      have k := Decidable.not_not.1 k
      split at h0
      · simp at h0
      · rename_i m
        rw [if_neg (by simpa using h), if_neg (by simpa using k), if_neg m]
        obtain ⟨a1, a2⟩ := getN_back h8 h
        obtain ⟨b1, b2⟩ := getN_back (dig_drop h8 (getN bs).2.1) k
        generalize getN (bs.drop (getN bs).2.1) = g at *
        generalize getN bs = q at *
        obtain ⟨q1, q2, q3⟩ := q
        obtain ⟨g1, g2, g3⟩ := g
        simp only at *
        have hl : ((bs.drop (q2 + g2)).take g1).length = g1 := by rw [List.length_take, List.length_drop]; omega
        refine ⟨?_, a2, by rw [hl]; omega⟩
        rw [put_ok a2]
        simp only
        rw [hl, a1, b1]
        refine congrArg (fun z : List Nat => (z, (0 : Int))) ?_
        rw [show q2 + g2 + g1 = q2 + (g2 + g1) by omega, List.take_add, List.take_add, List.drop_drop, List.append_assoc]
end Cn20
end Go.Proofs.YtmkiohnabbfkcaaDoor
