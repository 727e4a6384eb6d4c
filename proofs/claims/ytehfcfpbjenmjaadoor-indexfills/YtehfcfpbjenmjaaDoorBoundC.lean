/- Several texts in one, none of a statement by itself: Ixa, Ixb, Ixc. -/
import Derived.Test.YtehfcfpbjenmjaaDoorVnm
/- The index's bytes and the places of blocks, as plain mathematics; of no statement by themselves. -/
namespace Go.Proofs.YtehfcfpbjenmjaaDoor
open Go.RowKit
set_option linter.unusedVariables false
set_option linter.unusedSimpArgs false
/-- A record: its unpadded and its plain size. -/
structure Rec where
  u : Int
  s : Int
/-- A place: where its block begins, the record, where its plain bytes begin. -/
structure Plc where
  off : Int
  r : Rec
  st : Int
namespace Ix23
def pad (n : Int) : Int := (n + 3) / 4 * 4
/-- May the record follow, with these sums ahead of it? -/
def fitB (b p : Int) (r : Rec) : Bool := decide (5 ≤ r.u) && decide (r.u ≤ 9223372036854775804) && decide (0 ≤ r.s) && decide (b + pad r.u ≤ 9223372036854775807) && decide (p + r.s ≤ 9223372036854775807)
/-- Is the list right, with these sums ahead of it? -/
def rightB : Int → Int → List Rec → Bool
  | _, _, [] => true
  | b, p, r :: l => fitB b p r && rightB (b + pad r.u) (p + r.s) l
def bsum : List Rec → Int
  | [] => 0
  | r :: l => pad r.u + bsum l
def ssum : List Rec → Int
  | [] => 0
  | r :: l => r.s + ssum l
/-- A record's bytes. -/
def one (r : Rec) : List Nat := vbn r.u.toNat ++ vbn r.s.toNat
def recs : List Rec → List Nat
  | [] => []
  | r :: l => one r ++ recs l
def core (l : List Rec) : List Nat := 0 :: (vbn l.length ++ recs l)
def zpad (n : Nat) : Nat := (4 - n % 4) % 4
def body (l : List Rec) : List Nat := core l ++ List.replicate (zpad (core l).length) 0
/-- What Put answers. -/
def putI (l : List Rec) : List Nat × Int := if rightB 0 0 l = true then (body l ++ crc4 (body l), 0) else ([], 7)
/-- The records that lie there, n of them, with these sums ahead of them; where they end; the error. -/
noncomputable def getRs : Nat → Int → Int → Nat → List Rec → List Nat → List Rec × Nat × Int
  | 0, _, _, at_, acc, _ => (acc, at_, 0)
  | n + 1, b, p, at_, acc, r =>
    if (getN r).2.2 ≠ 0 then ([], 0, (getN r).2.2)
    else if ((getN r).1 : Int) < 5 ∨ 9223372036854775804 < ((getN r).1 : Int) ∨ 9223372036854775807 < b + pad (getN r).1 then ([], 0, 2)
    else if (getN (r.drop (getN r).2.1)).2.2 ≠ 0 then ([], 0, (getN (r.drop (getN r).2.1)).2.2)
    else if 9223372036854775807 < p + ((getN (r.drop (getN r).2.1)).1 : Int) then ([], 0, 2)
    else getRs n (b + pad (getN r).1) (p + (getN (r.drop (getN r).2.1)).1) (at_ + ((getN r).2.1 + (getN (r.drop (getN r).2.1)).2.1)) (acc ++ [⟨(getN r).1, (getN (r.drop (getN r).2.1)).1⟩]) (r.drop ((getN r).2.1 + (getN (r.drop (getN r).2.1)).2.1))
/-- What stands behind the records. -/
def tailI (bs : List Nat) (l : List Rec) (at_ : Nat) : List Rec × Nat × Int :=
  if bs.length < at_ + zpad at_ then ([], 0, 1)
  else if ∃ x ∈ (bs.drop at_).take (zpad at_), x ≠ 0 then ([], 0, 2)
  else if bs.length < at_ + zpad at_ + 4 then ([], 0, 1)
  else if (bs.drop (at_ + zpad at_)).take 4 ≠ crc4 (bs.take (at_ + zpad at_)) then ([], 0, 3)
  else (l, at_ + zpad at_ + 4, 0)
/-- What Get answers. -/
noncomputable def getI (bs : List Nat) : List Rec × Nat × Int :=
  if bs.length = 0 then ([], 0, 1)
  else if bs.getD 0 0 ≠ 0 then ([], 0, 2)
  else if (getN (bs.drop 1)).2.2 ≠ 0 then ([], 0, (getN (bs.drop 1)).2.2)
  else if (getRs (getN (bs.drop 1)).1 0 0 (1 + (getN (bs.drop 1)).2.1) [] (bs.drop (1 + (getN (bs.drop 1)).2.1))).2.2 ≠ 0 then ([], 0, (getRs (getN (bs.drop 1)).1 0 0 (1 + (getN (bs.drop 1)).2.1) [] (bs.drop (1 + (getN (bs.drop 1)).2.1))).2.2)
  else tailI bs (getRs (getN (bs.drop 1)).1 0 0 (1 + (getN (bs.drop 1)).2.1) [] (bs.drop (1 + (getN (bs.drop 1)).2.1))).1 (getRs (getN (bs.drop 1)).1 0 0 (1 + (getN (bs.drop 1)).2.1) [] (bs.drop (1 + (getN (bs.drop 1)).2.1))).2.1
/-- The places, the first one from there on. -/
def placeL : Int → Int → List Rec → List Plc
  | _, _, [] => []
  | off, st, r :: l => ⟨off, r, st⟩ :: placeL (off + pad r.u) (st + r.s) l
/-- What Places answers. -/
def placesI (frm : Int) (l : List Rec) : List Plc × Int × Int × Int :=
  if rightB 0 0 l = true ∧ 0 ≤ frm ∧ frm + bsum l ≤ 9223372036854775807 then (placeL frm 0 l, frm + bsum l, ssum l, 0) else ([], 0, 0, 7)
def hit (off : Int) (p : Plc) : Bool := decide (p.st ≤ off) && decide (off - p.st < p.r.s)
/-- What Find answers. -/
def findI : Nat → Int → List Plc → Int
  | _, _, [] => -1
  | i, off, p :: l => if hit off p = true then i else findI (i + 1) off l
theorem pad_is (n : Int) : n ≤ pad n ∧ pad n ≤ n + 3 ∧ pad n % 4 = 0 := by unfold pad; omega
theorem zpad_is (n : Nat) : zpad n < 4 ∧ (n + zpad n) % 4 = 0 := by unfold zpad; omega
theorem fit_is {b p : Int} {r : Rec} : fitB b p r = true ↔ 5 ≤ r.u ∧ r.u ≤ 9223372036854775804 ∧ 0 ≤ r.s ∧ b + pad r.u ≤ 9223372036854775807 ∧ p + r.s ≤ 9223372036854775807 := by
  unfold fitB
  simp only [Bool.and_eq_true, decide_eq_true_eq]
  omega
theorem right_cons {b p : Int} {r : Rec} {l : List Rec} : rightB b p (r :: l) = true ↔ fitB b p r = true ∧ rightB (b + pad r.u) (p + r.s) l = true := by
  rw [rightB, Bool.and_eq_true]
theorem bsum_app (a b : List Rec) : bsum (a ++ b) = bsum a + bsum b := by
  induction a with
  | nil => simp [bsum]
  | cons r a ih => rw [List.cons_append, bsum, bsum, ih]; omega
theorem ssum_app (a b : List Rec) : ssum (a ++ b) = ssum a + ssum b := by
  induction a with
  | nil => simp [ssum]
  | cons r a ih => rw [List.cons_append, ssum, ssum, ih]; omega
theorem recs_app (a b : List Rec) : recs (a ++ b) = recs a ++ recs b := by
  induction a with
  | nil => rfl
  | cons r a ih => rw [List.cons_append, recs, recs, ih, List.append_assoc]
theorem right_app {b p : Int} {l m : List Rec} : rightB b p (l ++ m) = true ↔ rightB b p l = true ∧ rightB (b + bsum l) (p + ssum l) m = true := by
  induction l generalizing b p with
  | nil => simp [rightB, bsum, ssum]
  | cons r l ih =>
    rw [List.cons_append, right_cons, right_cons, ih, bsum, ssum, Int.add_assoc b, Int.add_assoc p, and_assoc]
/-- A right list's sums. -/
theorem right_is {b p : Int} {l : List Rec} (h : rightB b p l = true) (hb : b ≤ 9223372036854775807) (hp : p ≤ 9223372036854775807) : (∀ r ∈ l, 5 ≤ r.u ∧ r.u ≤ 9223372036854775804 ∧ 0 ≤ r.s ∧ r.s ≤ 9223372036854775807 - p) ∧ b + bsum l ≤ 9223372036854775807 ∧ p + ssum l ≤ 9223372036854775807 ∧ 0 ≤ bsum l ∧ 0 ≤ ssum l ∧ 8 * (l.length : Int) ≤ bsum l := by
  induction l generalizing b p with
  | nil => exact ⟨fun r hr => (by cases hr), (by simp only [bsum]; omega), (by simp only [ssum]; omega), (by simp [bsum]), (by simp [ssum]), (by simp [bsum])⟩
  | cons r l ih =>
    obtain ⟨h1, h2⟩ := right_cons.1 h
    obtain ⟨f1, f2, f3, f4, f5⟩ := fit_is.1 h1
    obtain ⟨i1, i2, i3, i4, i5, i6⟩ := ih h2 f4 f5
    have hpd := pad_is r.u
    have hp8 : 8 ≤ pad r.u := by unfold pad; omega
    refine ⟨fun x hx => ?_, by rw [bsum]; omega, by rw [ssum]; omega, by rw [bsum]; omega, by rw [ssum]; omega, by rw [bsum, List.length_cons]; omega⟩
    rcases List.mem_cons.1 hx with rfl | hx
    · exact ⟨f1, f2, f3, by omega⟩
    · have := i1 x hx
      exact ⟨this.1, this.2.1, this.2.2.1, by omega⟩
theorem one_dig (r : Rec) : Rc.Dig (one r) := dig_app (vbn_dig _) (vbn_dig _)
theorem recs_dig : ∀ l : List Rec, Rc.Dig (recs l)
  | [] => fun x hx => by cases hx
  | r :: l => dig_app (one_dig r) (recs_dig l)
theorem core_dig (l : List Rec) : Rc.Dig (core l) := fun x hx => by
  rcases List.mem_cons.1 hx with rfl | hx
  · omega
  · exact dig_app (vbn_dig _) (recs_dig l) x hx
theorem body_dig (l : List Rec) : Rc.Dig (body l) := dig_app (core_dig l) (fun x hx => by obtain ⟨_, rfl⟩ := List.mem_replicate.1 hx; omega)
theorem body_len (l : List Rec) : (body l).length = (core l).length + zpad (core l).length := by unfold body; simp
theorem core_len (l : List Rec) : (core l).length = 1 + ((vbn l.length).length + (recs l).length) := by unfold core; simp; omega
theorem body_four (l : List Rec) : (body l).length % 4 = 0 ∧ 4 ≤ (body l).length := by
  have h1 := body_len l
  have h2 := zpad_is (core l).length
  have h3 := core_len l
  have h4 := vbn_le l.length
  omega
theorem putI_0 {l : List Rec} (h : rightB 0 0 l = true) : putI l = (body l ++ crc4 (body l), 0) := by unfold putI; rw [if_pos h]
theorem putI_7 {l : List Rec} (h : ¬ rightB 0 0 l = true) : putI l = ([], 7) := by unfold putI; rw [if_neg h]
theorem putI_dig (l : List Rec) : Rc.Dig (putI l).1 := by
  unfold putI
  split
  · exact dig_app (body_dig l) (crc4_dig _)
  · exact fun x hx => by cases hx
theorem putI_len {l : List Rec} (h : rightB 0 0 l = true) : (putI l).1.length = (body l).length + 4 := by rw [putI_0 h]; simp [crc4_len]
/-- Records there and back. -/
theorem getRs_put : ∀ (l : List Rec) (b p : Int) (at_ : Nat) (acc : List Rec) (t : List Nat), rightB b p l = true → b ≤ 9223372036854775807 → p ≤ 9223372036854775807 → 0 ≤ b → 0 ≤ p → getRs l.length b p at_ acc (recs l ++ t) = (acc ++ l, at_ + (recs l).length, 0)
  | [], b, p, at_, acc, t, _, _, _, _, _ => by simp [getRs, recs]
  | r :: l, b, p, at_, acc, t, h, hb, hp, hb0, hp0 => by
    obtain ⟨h1, h2⟩ := right_cons.1 h
    obtain ⟨f1, f2, f3, f4, f5⟩ := fit_is.1 h1
    have hpd := pad_is r.u
    have eu : ((r.u.toNat : Nat) : Int) = r.u := Int.toNat_of_nonneg (by omega)
    have es : ((r.s.toNat : Nat) : Int) = r.s := Int.toNat_of_nonneg f3
    have e1 : recs (r :: l) ++ t = vbn r.u.toNat ++ (vbn r.s.toNat ++ (recs l ++ t)) := by rw [recs, one]; simp
    have g1 := getN_vbn (v := r.u.toNat) (by omega) (vbn r.s.toNat ++ (recs l ++ t))
    have g2 := getN_vbn (v := r.s.toNat) (by omega) (recs l ++ t)
    have ih := getRs_put l (b + pad r.u) (p + r.s) (at_ + ((vbn r.u.toNat).length + (vbn r.s.toNat).length)) (acc ++ [r]) t h2 f4 f5 (by omega) (by omega)
    rw [e1, List.length_cons, getRs, g1]
    simp only [List.drop_left, g2]
    rw [if_neg (by omega), eu, if_neg (by omega), if_neg (by omega), es, if_neg (by omega)]
    rw [← List.drop_drop, List.drop_left, List.drop_left, show (⟨r.u, r.s⟩ : Rec) = r from rfl, ih]
    rw [recs, one]
    simp only [List.append_assoc, List.cons_append, List.nil_append, List.length_append]
    simp only [Nat.add_assoc]
/-- The index of records, with anything behind it. -/
theorem get_put {l : List Rec} (h : rightB 0 0 l = true) (t : List Nat) : getI ((putI l).1 ++ t) = (l, (putI l).1.length, 0) := by
  obtain ⟨_, q2, _, _, _, q6⟩ := right_is h (by omega) (by omega)
  have hl := putI_len h
  have hb := body_len l
  have hc := core_len l
  have hz := zpad_is (core l).length
  rw [putI_0 h] at hl ⊢
  simp only at hl ⊢
  have e1 : body l ++ crc4 (body l) ++ t = 0 :: (vbn l.length ++ (recs l ++ (List.replicate (zpad (core l).length) 0 ++ (crc4 (body l) ++ t)))) := by unfold body core; simp
  have g1 := getN_vbn (v := l.length) (by omega) (recs l ++ (List.replicate (zpad (core l).length) 0 ++ (crc4 (body l) ++ t)))
  have g2 := getRs_put l 0 0 (1 + (vbn l.length).length) [] (List.replicate (zpad (core l).length) 0 ++ (crc4 (body l) ++ t)) h (by omega) (by omega) (by omega) (by omega)
  have ed : (body l ++ crc4 (body l) ++ t).drop 1 = vbn l.length ++ (recs l ++ (List.replicate (zpad (core l).length) 0 ++ (crc4 (body l) ++ t))) := by rw [e1]; rfl
  have ed2 : (body l ++ crc4 (body l) ++ t).drop (1 + (vbn l.length).length) = recs l ++ (List.replicate (zpad (core l).length) 0 ++ (crc4 (body l) ++ t)) := by rw [← List.drop_drop, ed, List.drop_left]
  have e0 : (body l ++ crc4 (body l) ++ t).getD 0 0 = 0 := by rw [e1]; rfl
  have hat : 1 + (vbn l.length).length + (recs l).length = (core l).length := by omega
  unfold getI
  rw [if_neg (by rw [e1]; simp), e0, if_neg (by simp), ed, g1]
  simp only
  rw [if_neg (by simp), ed2, g2]
  simp only
  rw [if_neg (by simp), hat, List.nil_append]
  unfold tailI
  have hd1 : (body l ++ crc4 (body l) ++ t).drop (core l).length = List.replicate (zpad (core l).length) 0 ++ (crc4 (body l) ++ t) := by
    unfold body
    rw [List.append_assoc, List.append_assoc, List.drop_left]
  have hd2 : (body l ++ crc4 (body l) ++ t).drop ((core l).length + zpad (core l).length) = crc4 (body l) ++ t := by rw [← hb, List.append_assoc, List.drop_left]
  have ht2 : (body l ++ crc4 (body l) ++ t).take ((core l).length + zpad (core l).length) = body l := by rw [← hb, List.append_assoc, List.take_left]
  rw [hd1, hd2, ht2, if_neg (by simp only [List.length_append, hb]; omega), if_neg (by
    rintro ⟨x, hx, hne⟩
    rw [List.take_append_of_le_length (by simp), List.take_of_length_le (by simp)] at hx
    exact hne (List.mem_replicate.1 hx).2), if_neg (by simp only [List.length_append, hb, crc4_len]; omega), if_neg (by
    rw [List.take_append_of_le_length (by rw [crc4_len]; omega), List.take_of_length_le (by rw [crc4_len]; omega)]
    simp)]
  rw [hl, hb]
end Ix23
end Go.Proofs.YtehfcfpbjenmjaaDoor

/- The index cut short, read back, with bits turned; places found: plain mathematics; of no statement by themselves. -/
namespace Go.Proofs.YtehfcfpbjenmjaaDoor
open Go.RowKit
set_option linter.unusedVariables false
set_option linter.unusedSimpArgs false
namespace Ix23
theorem getN_less {v : Nat} (hv : v ≤ 9223372036854775807) {t : List Nat} {c : Nat} (hc : c < (vbn v).length) : getN ((vbn v ++ t).take c) = (0, 0, 1) := by
  rw [List.take_append_of_le_length (by omega), getN_cut hv hc]
theorem take_over {a t : List Nat} {c : Nat} (hc : a.length ≤ c) : (a ++ t).take c = a ++ t.take (c - a.length) := by
  rw [List.take_append, List.take_of_length_le hc]
/-- Records cut short. -/
theorem getRs_cut : ∀ (l : List Rec) (b p : Int) (at_ : Nat) (acc : List Rec) (c : Nat), rightB b p l = true → b ≤ 9223372036854775807 → p ≤ 9223372036854775807 → 0 ≤ b → 0 ≤ p → c < (recs l).length → getRs l.length b p at_ acc ((recs l).take c) = ([], 0, 1)
  | [], b, p, at_, acc, c, _, _, _, _, _, hc => by simp [recs] at hc
  | r :: l, b, p, at_, acc, c, h, hb, hp, hb0, hp0, hc => by
    obtain ⟨h1, h2⟩ := right_cons.1 h
    obtain ⟨f1, f2, f3, f4, f5⟩ := fit_is.1 h1
    have hpd := pad_is r.u
    have eu : ((r.u.toNat : Nat) : Int) = r.u := Int.toNat_of_nonneg (by omega)
    have es : ((r.s.toNat : Nat) : Int) = r.s := Int.toNat_of_nonneg f3
    have e1 : recs (r :: l) = vbn r.u.toNat ++ (vbn r.s.toNat ++ recs l) := by rw [recs, one]; simp
    rw [e1] at hc ⊢
    simp only [List.length_append] at hc
    rw [List.length_cons, getRs]
    by_cases c1 : c < (vbn r.u.toNat).length
    · rw [getN_less (by omega) c1]
      simp
    · rw [take_over (by omega), getN_vbn (by omega)]
      simp only [List.drop_left]
      rw [if_neg (by omega), eu, if_neg (by omega)]
      by_cases c2 : c - (vbn r.u.toNat).length < (vbn r.s.toNat).length
      · rw [getN_less (by omega) c2]
        simp
      · rw [take_over (by omega), getN_vbn (by omega)]
        simp only
        rw [if_neg (by omega), es, if_neg (by omega)]
        rw [← List.drop_drop, List.drop_left, List.drop_left]
        exact getRs_cut l _ _ _ _ _ h2 f4 f5 (by omega) (by omega) (by omega)
/-- Every proper beginning is cut short. -/
theorem get_cutI {l : List Rec} (h : rightB 0 0 l = true) {i : Nat} (hi : i < (putI l).1.length) : getI ((putI l).1.take i) = ([], 0, 1) := by
  obtain ⟨_, q2, _, _, _, q6⟩ := right_is h (by omega) (by omega)
  have hl := putI_len h
  have hb := body_len l
  have hc := core_len l
  have hz := zpad_is (core l).length
  rw [putI_0 h] at hl hi ⊢
  simp only at hl hi ⊢
  have e1 : body l ++ crc4 (body l) = 0 :: (vbn l.length ++ (recs l ++ (List.replicate (zpad (core l).length) 0 ++ crc4 (body l)))) := by unfold body core; simp
  unfold getI
  cases i with
  | zero => simp
  | succ c =>
    rw [e1, List.take_succ_cons]
    rw [if_neg (by simp), if_neg (by simp)]
    simp only [List.drop_succ_cons, List.drop_zero, Nat.add_comm 1]
    by_cases c1 : c < (vbn l.length).length
    · rw [getN_less (by omega) c1]
      simp
    · rw [take_over (by omega), getN_vbn (by omega)]
      simp only [List.drop_left, List.drop_succ_cons]
      rw [if_neg (by simp)]
      by_cases c2 : c - (vbn l.length).length < (recs l).length
      · rw [List.take_append_of_le_length (by omega), getRs_cut l 0 0 _ _ _ h (by omega) (by omega) (by omega) (by omega) c2]
        simp
      · rw [take_over (by omega), getRs_put l 0 0 _ _ _ h (by omega) (by omega) (by omega) (by omega)]
        simp only [List.nil_append]
        rw [if_neg (by simp)]
        have hcl : (vbn l.length).length + 1 + (recs l).length = (core l).length := by omega
        rw [hcl]
        unfold tailI
        have hlen : (0 :: (vbn l.length ++ (recs l ++ (List.replicate (zpad (core l).length) 0 ++ crc4 (body l)).take (c - (vbn l.length).length - (recs l).length)))).length = c + 1 := by
          simp only [List.length_cons, List.length_append, List.length_take, List.length_replicate, crc4_len]
          omega
        rw [hlen]
        by_cases c3 : c + 1 < (core l).length + zpad (core l).length
        · rw [if_pos c3]
        · rw [if_neg c3]
          have hd : (0 :: (vbn l.length ++ (recs l ++ (List.replicate (zpad (core l).length) 0 ++ crc4 (body l)).take (c - (vbn l.length).length - (recs l).length)))).drop (core l).length = (List.replicate (zpad (core l).length) 0 ++ crc4 (body l)).take (c - (vbn l.length).length - (recs l).length) := by
            rw [show (core l).length = 1 + ((vbn l.length).length + (recs l).length) by omega, Nat.add_comm 1, List.drop_succ_cons, ← List.drop_drop, List.drop_left, List.drop_left]
          rw [hd, take_over (by simp only [List.length_replicate]; omega), if_neg (by
            rintro ⟨x, hx, hne⟩
            rw [List.take_append_of_le_length (by simp), List.take_of_length_le (by simp)] at hx
            exact hne (List.mem_replicate.1 hx).2), if_pos (by rw [hl] at hi; omega)]
/-- What is read of records is what is laid of them. -/
theorem getRs_back : ∀ (n : Nat) (b p : Int) (at_ : Nat) (acc : List Rec) (r : List Nat), Rc.Dig r → (getRs n b p at_ acc r).2.2 = 0 → ∃ m : List Rec, m.length = n ∧ getRs n b p at_ acc r = (acc ++ m, at_ + (recs m).length, 0) ∧ rightB b p m = true ∧ recs m = r.take (recs m).length ∧ (recs m).length ≤ r.length ∧ 2 * m.length ≤ (recs m).length
  | 0, b, p, at_, acc, r, _, _ => ⟨[], rfl, by simp [getRs, recs], rfl, by simp [recs], by simp [recs], by simp⟩
  | n + 1, b, p, at_, acc, r, hd, h => by
    have p1 := getN_pos r
    have p2 := getN_pos (r.drop (getN r).2.1)
    rw [List.length_drop] at p2
    rw [getRs] at h ⊢
    split at h
    · rename_i k; exact absurd h k
    rename_i k1
    have k1 := Decidable.not_not.1 k1
    split at h
    · simp at h
    rename_i k2
    split at h
    · rename_i k; exact absurd h k
    rename_i k3
    have k3 := Decidable.not_not.1 k3
    split at h
    · simp at h
    rename_i k4
    rw [if_neg (by simpa using k1), if_neg k2, if_neg (by simpa using k3), if_neg k4]
    obtain ⟨a1, a2⟩ := getN_back hd k1
    obtain ⟨b1, b2⟩ := getN_back (dig_drop hd (getN r).2.1) k3
    obtain ⟨m, i1, i2, i3, i4, i5, i6⟩ := getRs_back n _ _ _ _ _ (dig_drop hd _) h
    refine ⟨⟨(getN r).1, (getN (r.drop (getN r).2.1)).1⟩ :: m, by rw [List.length_cons, i1], ?_, ?_, ?_, ?_, ?_⟩
    all_goals have e1 : recs (⟨((getN r).1 : Int), ((getN (r.drop (getN r).2.1)).1 : Int)⟩ :: m) = vbn (getN r).1 ++ (vbn (getN (r.drop (getN r).2.1)).1 ++ recs m) := by rw [recs, one]; simp
    all_goals have l1 : (vbn (getN r).1).length = (getN r).2.1 := by rw [a1, List.length_take]; omega
    all_goals have l2 : (vbn (getN (r.drop (getN r).2.1)).1).length = (getN (r.drop (getN r).2.1)).2.1 := by rw [b1, List.length_take, List.length_drop]; omega
    · rw [i2, e1]
      simp only [List.length_append, l1, l2, List.append_assoc, List.cons_append, List.nil_append]
      simp only [Nat.add_assoc]
    · rw [right_cons]
      refine ⟨fit_is.2 ⟨?_, ?_, ?_, ?_, ?_⟩, i3⟩
      all_goals simp only
      all_goals omega
    · rw [e1]
      simp only [List.length_append, l1, l2]
      rw [List.take_add, List.take_add, List.drop_drop, ← a1, ← b1, ← i4]
    · rw [e1]
      simp only [List.length_append, l1, l2]
      rw [List.length_drop] at i5
      omega
    · rw [e1]
      simp only [List.length_append, List.length_cons]
      omega
theorem getRs_err : ∀ (n : Nat) (b p : Int) (at_ : Nat) (acc : List Rec) (r : List Nat), (getRs n b p at_ acc r).2.2 = 0 ∨ (getRs n b p at_ acc r).2.2 = 1 ∨ (getRs n b p at_ acc r).2.2 = 2
  | 0, b, p, at_, acc, r => .inl rfl
  | n + 1, b, p, at_, acc, r => by
    have p1 := getN_pos r
    have p2 := getN_pos (r.drop (getN r).2.1)
    rw [getRs]
    split
    · simp only; omega
    · split
      · exact .inr (.inr rfl)
      · split
        · simp only; omega
        · split
          · exact .inr (.inr rfl)
          · exact getRs_err n _ _ _ _ _
theorem getI_err (bs : List Nat) : (getI bs).2.2 = 0 ∨ (((getI bs).2.2 = 1 ∨ (getI bs).2.2 = 2 ∨ (getI bs).2.2 = 3) ∧ (getI bs).1 = [] ∧ (getI bs).2.1 = 0) := by
  have p1 := getN_pos (bs.drop 1)
  unfold getI
  split
  · exact .inr ⟨.inl rfl, rfl, rfl⟩
  · split
    · exact .inr ⟨.inr (.inl rfl), rfl, rfl⟩
    · split
      · exact .inr ⟨by simp only; omega, rfl, rfl⟩
      · split
        · rename_i k
          rcases getRs_err (getN (bs.drop 1)).1 0 0 (1 + (getN (bs.drop 1)).2.1) [] (bs.drop (1 + (getN (bs.drop 1)).2.1)) with h | h | h
          · exact absurd h k
          · exact .inr ⟨.inl h, rfl, rfl⟩
          · exact .inr ⟨.inr (.inl h), rfl, rfl⟩
        · unfold tailI
          split
          · exact .inr ⟨.inl rfl, rfl, rfl⟩
          · split
            · exact .inr ⟨.inr (.inl rfl), rfl, rfl⟩
            · split
              · exact .inr ⟨.inl rfl, rfl, rfl⟩
              · split
                · exact .inr ⟨.inr (.inr rfl), rfl, rfl⟩
                · exact .inl rfl
theorem zeros_is : ∀ (l : List Nat), (∀ x ∈ l, x = 0) → l = List.replicate l.length 0
  | [], _ => rfl
  | x :: l, h => by rw [List.length_cons, List.replicate_succ, ← zeros_is l (fun y hy => h y (by simp [hy])), h x (by simp)]
/-- What Get takes is the front that Put makes of the records. -/
theorem get_backI {bs : List Nat} (hd : Rc.Dig bs) (h0 : (getI bs).2.2 = 0) : rightB 0 0 (getI bs).1 = true ∧ putI (getI bs).1 = (bs.take (getI bs).2.1, 0) ∧ (getI bs).2.1 ≤ bs.length ∧ 2 * (getI bs).1.length ≤ bs.length := by
  have p1 := getN_pos (bs.drop 1)
  rw [List.length_drop] at p1
  unfold getI at h0 ⊢
  split at h0
  · simp at h0
  rename_i c1
  split at h0
  · simp at h0
  rename_i c2
  have c2 := Decidable.not_not.1 c2
  split at h0
  · rename_i k; exact absurd h0 k
  rename_i c3
  have c3 := Decidable.not_not.1 c3
  split at h0
  · rename_i k; exact absurd h0 k
  rename_i c4
  have c4 := Decidable.not_not.1 c4
  rw [if_neg c1, if_neg (by simpa using c2), if_neg (by simpa using c3), if_neg (by simpa using c4)]
  obtain ⟨a1, a2⟩ := getN_back (dig_drop hd 1) c3
  obtain ⟨m, i1, i2, i3, i4, i5, i6⟩ := getRs_back _ _ _ _ _ _ (dig_drop hd _) c4
  rw [i2] at h0 ⊢
  rw [List.nil_append] at h0 ⊢
  generalize hgb : getN (bs.drop 1) = G at *
  try simp only at h0 ⊢
  have l1 : (vbn G.1).length = G.2.1 := by rw [a1, List.length_take, List.length_drop]; omega
  rw [List.length_drop] at i5
  have hcl : (core m).length = 1 + G.2.1 + (recs m).length := by rw [core_len, i1, l1]; omega
  have hcore : core m = bs.take (core m).length := by
    rw [hcl]
    cases bs with
    | nil => exact absurd rfl c1
    | cons x r =>
      obtain rfl : x = 0 := c2
      rw [List.drop_succ_cons, List.drop_zero] at a1
      rw [show 1 + G.2.1 + (recs m).length = (G.2.1 + (recs m).length) + 1 by omega, List.take_succ_cons, List.take_add, core, i1, ← a1]
      rw [show 1 + G.2.1 = G.2.1 + 1 by omega, List.drop_succ_cons] at i4
      rw [← i4]
  unfold tailI at h0 ⊢
  rw [← hcl] at h0 ⊢
  generalize hC : (core m).length = C at *
  split at h0
  · simp at h0
  rename_i d1
  split at h0
  · simp at h0
  rename_i d2
  split at h0
  · simp at h0
  rename_i d3
  split at h0
  · simp at h0
  rename_i d4
  have d4 := Decidable.not_not.1 d4
  rw [if_neg d1, if_neg d2, if_neg d3, if_neg (by simpa using d4)]
  simp only
  have hz : (bs.drop C).take (zpad C) = List.replicate (zpad C) 0 := by
    have := zeros_is ((bs.drop C).take (zpad C)) (fun x hx => by
      by_cases e : x = 0
      · exact e
      · exact absurd ⟨x, hx, e⟩ d2)
    rw [show ((bs.drop C).take (zpad C)).length = zpad C by rw [List.length_take, List.length_drop]; omega] at this
    exact this
  have hbody : body m = bs.take (C + zpad C) := by
    unfold body
    rw [hC, List.take_add, hz, ← hcore]
  refine ⟨i3, ?_, by omega, by omega⟩
  rw [putI_0 i3, hbody, ← d4, ← List.take_add]
/-- Bits turned are told. -/
theorem told_I {l : List Rec} (h : rightB 0 0 l = true) {xs : List Nat} {at_ M : Nat} (ht : Cq.Turned (putI l).1 xs at_ 32 M) (hM : M ≠ 0) (h0 : (getI xs).2.2 = 0) : (getI xs).2.1 ≠ (putI l).1.length := by
  intro e
  obtain ⟨b1, b2, b3, _⟩ := get_backI ht.byt h0
  refine hM (crc_told ht ⟨body l, body_dig l, by rw [putI_0 h]⟩ ⟨body (getI xs).1, body_dig _, ?_⟩)
  have e2 : xs.length = (putI l).1.length := ht.len
  rw [putI_0 b1] at b2
  simp only [Prod.mk.injEq, and_true] at b2
  rw [b2, List.take_of_length_le (by omega)]
end Ix23
end Go.Proofs.YtehfcfpbjenmjaaDoor

/- Places and what Find finds, plain mathematics; of no statement by themselves. -/
namespace Go.Proofs.YtehfcfpbjenmjaaDoor
open Go.RowKit
set_option linter.unusedVariables false
set_option linter.unusedSimpArgs false
namespace Ix23
theorem placeL_len : ∀ (o s : Int) (l : List Rec), (placeL o s l).length = l.length
  | _, _, [] => rfl
  | o, s, r :: l => by rw [placeL, List.length_cons, List.length_cons, placeL_len]
theorem placeL_app : ∀ (o s : Int) (l m : List Rec), placeL o s (l ++ m) = placeL o s l ++ placeL (o + bsum l) (s + ssum l) m
  | o, s, [], m => by simp [placeL, bsum, ssum]
  | o, s, r :: l, m => by
    rw [List.cons_append, placeL, placeL, placeL_app, bsum, ssum, Int.add_assoc o, Int.add_assoc s]
    rfl
theorem placeL_at {o s : Int} {l : List Rec} {k : Nat} {r : Rec} (h : l[k]? = some r) : (placeL o s l)[k]? = some ⟨o + bsum (l.take k), r, s + ssum (l.take k)⟩ := by
  induction l generalizing o s k with
  | nil => simp at h
  | cons x l ih =>
    cases k with
    | zero =>
      simp at h
      subst h
      simp [placeL, bsum, ssum]
    | succ k =>
      rw [placeL, List.getElem?_cons_succ, ih (by simpa using h), List.take_succ_cons, bsum, ssum, Int.add_assoc o, Int.add_assoc s]
theorem hit_is {off : Int} {p : Plc} : hit off p = true ↔ p.st ≤ off ∧ off - p.st < p.r.s := by unfold hit; simp
theorem find_app (i : Nat) (off : Int) (a b : List Plc) : findI i off (a ++ b) = if findI i off a = -1 then findI (i + a.length) off b else findI i off a := by
  induction a generalizing i with
  | nil => simp [findI]
  | cons p a ih =>
    rw [List.cons_append, findI, findI]
    by_cases h : hit off p = true
    · rw [if_pos h, if_pos h, if_neg (by omega)]
    · rw [if_neg h, if_neg h, ih, List.length_cons, show i + 1 + a.length = i + (a.length + 1) by omega]
/-- How many places are hit, and the last that is. -/
def scan (off : Int) : Nat → Nat × Int → List Plc → Nat × Int
  | _, c, [] => c
  | i, c, p :: l => scan off (i + 1) (if hit off p = true then (c.1 + 1, (i : Int)) else c) l
theorem scan_app (off : Int) (i : Nat) (c : Nat × Int) (a b : List Plc) : scan off i c (a ++ b) = scan off (i + a.length) (scan off i c a) b := by
  induction a generalizing i c with
  | nil => rfl
  | cons p a ih => rw [List.cons_append, scan, scan, ih, List.length_cons, show i + 1 + a.length = i + (a.length + 1) by omega]
theorem find_no (off : Int) : ∀ (i : Nat) (c : Nat × Int) (o s : Int) (l : List Rec), (∀ r ∈ l, 0 ≤ r.s) → off < s → findI i off (placeL o s l) = -1 ∧ scan off i c (placeL o s l) = c
  | i, c, o, s, [], _, _ => ⟨rfl, rfl⟩
  | i, c, o, s, r :: l, h, hs => by
    have h0 := h r (by simp)
    have hn : ¬ hit off ⟨o, r, s⟩ = true := fun f => by have := hit_is.1 f; simp only at this; omega
    rw [placeL, findI, scan, if_neg hn, if_neg hn]
    exact find_no off (i + 1) c _ _ l (fun x hx => h x (by simp [hx])) (by omega)
/-- What is asked for inside lies in just one place, else in none. -/
theorem find_is (off : Int) : ∀ (i : Nat) (c : Nat × Int) (o s : Int) (l : List Rec), (∀ r ∈ l, 0 ≤ r.s) → s ≤ off → (off < s + ssum l ∧ ∃ k : Nat, k < l.length ∧ findI i off (placeL o s l) = ((i + k : Nat) : Int) ∧ scan off i c (placeL o s l) = (c.1 + 1, ((i + k : Nat) : Int))) ∨ (s + ssum l ≤ off ∧ findI i off (placeL o s l) = -1 ∧ scan off i c (placeL o s l) = c)
  | i, c, o, s, [], _, hs => .inr ⟨by simp only [ssum]; omega, rfl, rfl⟩
  | i, c, o, s, r :: l, h, hs => by
    have h0 := h r (by simp)
    have hsum : 0 ≤ ssum l := by
      have : ∀ m : List Rec, (∀ r ∈ m, 0 ≤ r.s) → 0 ≤ ssum m := fun m => by
        induction m with
        | nil => intro _; simp [ssum]
        | cons y m ih => intro hm; rw [ssum]; have h1 := hm y (by simp); have h2 := ih (fun x hx => hm x (by simp [hx])); omega
      exact this l (fun x hx => h x (by simp [hx]))
    rw [placeL, findI, scan, ssum]
    by_cases hh : off - s < r.s
    · have hy : hit off ⟨o, r, s⟩ = true := hit_is.2 ⟨hs, hh⟩
      rw [if_pos hy, if_pos hy]
      obtain ⟨a, b⟩ := find_no off (i + 1) (c.1 + 1, (i : Int)) (o + pad r.u) (s + r.s) l (fun x hx => h x (by simp [hx])) (by omega)
      exact .inl ⟨by omega, 0, by simp, by simp, by rw [b]; simp⟩
    · have hn : ¬ hit off ⟨o, r, s⟩ = true := fun f => hh (hit_is.1 f).2
      rw [if_neg hn, if_neg hn]
      rcases find_is off (i + 1) c (o + pad r.u) (s + r.s) l (fun x hx => h x (by simp [hx])) (by omega) with ⟨a, k, b, d, e⟩ | ⟨a, b, d⟩
      · exact .inl ⟨by omega, k + 1, by simp; omega, by rw [d]; congr 1; omega, by rw [e]; congr 2; omega⟩
      · exact .inr ⟨by omega, b, d⟩
/-- What lies in a place is found there. -/
theorem find_hit (off : Int) : ∀ (i : Nat) (o s : Int) (l : List Rec) (k : Nat) (p : Plc), (∀ r ∈ l, 0 ≤ r.s) → (placeL o s l)[k]? = some p → hit off p = true → findI i off (placeL o s l) = ((i + k : Nat) : Int) ∧ s ≤ p.st
  | i, o, s, [], k, p, _, hk, _ => by simp [placeL] at hk
  | i, o, s, r :: l, 0, p, _, hk, hh => by
    simp [placeL] at hk
    subst hk
    rw [placeL, findI, if_pos hh]
    exact ⟨rfl, Int.le_refl _⟩
  | i, o, s, r :: l, k + 1, p, h, hk, hh => by
    have h0 := h r (by simp)
    rw [placeL, List.getElem?_cons_succ] at hk
    obtain ⟨a, b⟩ := find_hit off (i + 1) (o + pad r.u) (s + r.s) l k p (fun x hx => h x (by simp [hx])) hk hh
    have hn : ¬ hit off ⟨o, r, s⟩ = true := fun f => by
      have f1 := hit_is.1 f
      have f2 := hit_is.1 hh
      simp only at f1
      omega
    rw [placeL, findI, if_neg hn, a]
    exact ⟨by congr 1; omega, by omega⟩
theorem find_rng (i : Nat) (off : Int) (l : List Plc) : findI i off l = -1 ∨ ∃ k : Nat, k < l.length ∧ findI i off l = ((i + k : Nat) : Int) := by
  induction l generalizing i with
  | nil => exact .inl rfl
  | cons p l ih =>
    rw [findI]
    by_cases h : hit off p = true
    · rw [if_pos h]; exact .inr ⟨0, by simp, by simp⟩
    · rw [if_neg h]
      rcases ih (i + 1) with e | ⟨k, a, b⟩
      · exact .inl e
      · exact .inr ⟨k + 1, by simp; omega, by rw [b]; congr 1; omega⟩
end Ix23
end Go.Proofs.YtehfcfpbjenmjaaDoor
