/- The header and the footer of a file, as plain mathematics; of no statement by themselves. -/
import Derived.Test.YtikokgngkagieaaDoorVnm
namespace Go.Proofs.YtikokgngkagieaaDoor
open Go.RowKit
set_option linter.unusedVariables false
set_option linter.unusedSimpArgs false
namespace Fr24
def F6 : List Nat := [253, 55, 122, 88, 90, 0]
def E2 : List Nat := [89, 90]
/-- Is it a kind that is read here? -/
def kind (k : Int) : Bool := decide (k = 0) || decide (k = 1) || decide (k = 4) || decide (k = 10)
def flags (k : Nat) : List Nat := [0, k]
def headB (k : Nat) : List Nat := F6 ++ (flags k ++ crc4 (flags k))
/-- What Header answers. -/
def headF (k : Int) : List Nat × Int := if kind k = true then (headB k.toNat, 0) else ([], 6)
def six (k n : Nat) : List Nat := Cq.Crc.low (n / 4 - 1) 4 ++ flags k
def footB (k n : Nat) : List Nat := crc4 (six k n) ++ (six k n ++ E2)
/-- What Footer answers. -/
def footF (k n : Int) : List Nat × Int := if kind k = true then (if n < 4 ∨ 17179869184 < n ∨ n % 4 ≠ 0 then ([], 7) else (footB k.toNat n.toNat, 0)) else ([], 6)
/-- What ReadHeader answers. -/
def rheadF (bs : List Nat) : Int × Int :=
  if bs.length < 12 then (0, 1)
  else if bs.take 6 ≠ F6 then (0, 2)
  else if (bs.drop 8).take 4 ≠ crc4 ((bs.drop 6).take 2) then (0, 3)
  else if bs.getD 6 0 ≠ 0 ∨ kind (bs.getD 7 0) = false then (0, 4)
  else (bs.getD 7 0, 0)
/-- Four bytes, the lowest first. -/
def low4 (bs : List Nat) : Nat := bs.getD 0 0 + 256 * (bs.getD 1 0 + 256 * (bs.getD 2 0 + 256 * bs.getD 3 0))
/-- What ReadFooter answers. -/
def rfootF (bs : List Nat) : Int × Int × Int :=
  if bs.length < 12 then (0, 0, 1)
  else if (bs.drop 10).take 2 ≠ E2 then (0, 0, 2)
  else if bs.take 4 ≠ crc4 ((bs.drop 4).take 6) then (0, 0, 3)
  else if bs.getD 8 0 ≠ 0 ∨ kind (bs.getD 9 0) = false then (0, 0, 2)
  else (bs.getD 9 0, 4 * ((low4 ((bs.drop 4).take 4) : Int) + 1), 0)
theorem kind_is {k : Int} : kind k = true ↔ k = 0 ∨ k = 1 ∨ k = 4 ∨ k = 10 := by unfold kind; simp [or_assoc]
theorem kind_nat {k : Nat} : kind (k : Int) = true ↔ k = 0 ∨ k = 1 ∨ k = 4 ∨ k = 10 := by rw [kind_is]; omega
theorem kind_lt {k : Int} (h : kind k = true) : 0 ≤ k ∧ k ≤ 10 := by have := kind_is.1 h; omega
theorem low4_low {v : Nat} (hv : v < 4294967296) : low4 (Cq.Crc.low v 4) = v := by
  have e2 : Cq.Crc.low v 4 = [v % 256, v / 256 % 256, v / 256 / 256 % 256, v / 256 / 256 / 256 % 256] := rfl
  rw [e2]
  unfold low4
  simp
  omega
theorem low_low4 {y0 y1 y2 y3 : Nat} (h0 : y0 < 256) (h1 : y1 < 256) (h2 : y2 < 256) (h3 : y3 < 256) : Cq.Crc.low (low4 [y0, y1, y2, y3]) 4 = [y0, y1, y2, y3] := by
  have e2 : ∀ v, Cq.Crc.low v 4 = [v % 256, v / 256 % 256, v / 256 / 256 % 256, v / 256 / 256 / 256 % 256] := fun _ => rfl
  rw [e2]
  unfold low4
  simp
  omega
theorem low4_bd {y0 y1 y2 y3 : Nat} (h0 : y0 < 256) (h1 : y1 < 256) (h2 : y2 < 256) (h3 : y3 < 256) : low4 [y0, y1, y2, y3] < 4294967296 := by
  unfold low4
  simp
  omega
theorem headB_len (k : Nat) : (headB k).length = 12 := by simp [headB, F6, flags, crc4_len]
theorem six_len (k n : Nat) : (six k n).length = 6 := by simp [six, flags, low_len]
theorem footB_len (k n : Nat) : (footB k n).length = 12 := by simp [footB, E2, six_len, crc4_len]
theorem flags_dig {k : Nat} (h : k < 256) : Rc.Dig (flags k) := by
  intro x hx
  simp [flags] at hx
  omega
theorem six_dig {k n : Nat} (h : k < 256) : Rc.Dig (six k n) := dig_app (low_dig _ _) (flags_dig h)
theorem headB_dig {k : Nat} (h : k < 256) : Rc.Dig (headB k) := dig_app (fun x hx => by simp [F6] at hx; omega) (dig_app (flags_dig h) (crc4_dig _))
theorem footB_dig {k n : Nat} (h : k < 256) : Rc.Dig (footB k n) := dig_app (crc4_dig _) (dig_app (six_dig h) (fun x hx => by simp [E2] at hx; omega))
theorem headF_0 {k : Int} (h : kind k = true) : headF k = (headB k.toNat, 0) := by unfold headF; rw [if_pos h]
theorem headF_6 {k : Int} (h : ¬ kind k = true) : headF k = ([], 6) := by unfold headF; rw [if_neg h]
theorem rhead_back {k : Nat} (h : kind (k : Int) = true) (t : List Nat) : rheadF (headB k ++ t) = ((k : Int), 0) := by
  have e1 : headB k ++ t = F6 ++ (flags k ++ (crc4 (flags k) ++ t)) := by unfold headB; simp
  have l6 : F6.length = 6 := rfl
  have lf : (flags k).length = 2 := rfl
  unfold rheadF
  rw [if_neg (by rw [List.length_append, headB_len]; omega), e1]
  have t6 : (F6 ++ (flags k ++ (crc4 (flags k) ++ t))).take 6 = F6 := by rw [← l6, List.take_left]
  have d6 : (F6 ++ (flags k ++ (crc4 (flags k) ++ t))).drop 6 = flags k ++ (crc4 (flags k) ++ t) := by rw [← l6, List.drop_left]
  have d8 : (F6 ++ (flags k ++ (crc4 (flags k) ++ t))).drop 8 = crc4 (flags k) ++ t := by
    rw [show 8 = 6 + 2 from rfl, ← List.drop_drop, d6, ← lf, List.drop_left]
  rw [t6, d6, d8, if_neg (by simp), show (flags k ++ (crc4 (flags k) ++ t)).take 2 = flags k by rw [← lf, List.take_left], show (crc4 (flags k) ++ t).take 4 = crc4 (flags k) by rw [← crc4_len (flags k), List.take_left], if_neg (by simp)]
  have g6 : (F6 ++ (flags k ++ (crc4 (flags k) ++ t))).getD 6 0 = 0 := by simp [F6, flags]
  have g7 : (F6 ++ (flags k ++ (crc4 (flags k) ++ t))).getD 7 0 = k := by simp [F6, flags]
  rw [g6, g7, if_neg (by simp [h])]
theorem rfoot_back {k n : Nat} (h : kind (k : Int) = true) (hn : 4 ≤ n) (hn2 : n ≤ 17179869184) (h4 : n % 4 = 0) (t : List Nat) : rfootF (footB k n ++ t) = ((k : Int), (n : Int), 0) := by
  have e1 : footB k n ++ t = crc4 (six k n) ++ (six k n ++ (E2 ++ t)) := by unfold footB; simp
  have e2 : six k n ++ (E2 ++ t) = Cq.Crc.low (n / 4 - 1) 4 ++ (flags k ++ (E2 ++ t)) := by unfold six; simp
  have lc := crc4_len (six k n)
  have ls := six_len k n
  unfold rfootF
  rw [if_neg (by rw [List.length_append, footB_len]; omega), e1]
  have t4 : (crc4 (six k n) ++ (six k n ++ (E2 ++ t))).take 4 = crc4 (six k n) := by rw [← lc, List.take_left]
  have d4 : (crc4 (six k n) ++ (six k n ++ (E2 ++ t))).drop 4 = six k n ++ (E2 ++ t) := by rw [← lc, List.drop_left]
  have d10 : (crc4 (six k n) ++ (six k n ++ (E2 ++ t))).drop 10 = E2 ++ t := by
    rw [show 10 = 4 + 6 from rfl, ← List.drop_drop, d4, ← ls, List.drop_left]
  rw [t4, d4, d10, if_neg (by simp [E2]), show (six k n ++ (E2 ++ t)).take 6 = six k n by rw [← ls, List.take_left], if_neg (by simp)]
  have q4 : (six k n ++ (E2 ++ t)).take 4 = Cq.Crc.low (n / 4 - 1) 4 := by
    rw [e2]
    have := low_len (n / 4 - 1) 4
    rw [List.take_append_of_le_length (by omega), List.take_of_length_le (by omega)]
  obtain ⟨c0, c1, c2, c3, hc⟩ : ∃ a b c d, crc4 (six k n) = [a, b, c, d] := ⟨_, _, _, _, rfl⟩
  have e3 : Cq.Crc.low (n / 4 - 1) 4 = [(n / 4 - 1) % 256, (n / 4 - 1) / 256 % 256, (n / 4 - 1) / 256 / 256 % 256, (n / 4 - 1) / 256 / 256 / 256 % 256] := rfl
  have g8 : (crc4 (six k n) ++ (six k n ++ (E2 ++ t))).getD 8 0 = 0 := by rw [e2, hc, e3]; simp [flags]
  have g9 : (crc4 (six k n) ++ (six k n ++ (E2 ++ t))).getD 9 0 = k := by rw [e2, hc, e3]; simp [flags]
  rw [g8, g9, if_neg (by simp [h]), q4, low4_low (by omega)]
  have : 4 * (((n / 4 - 1 : Nat) : Int) + 1) = (n : Int) := by omega
  rw [this]
theorem rhead_cut (bs : List Nat) {i : Nat} (hi : i < 12) : rheadF (bs.take i) = (0, 1) := by
  unfold rheadF
  rw [if_pos (by rw [List.length_take]; omega)]
theorem rfoot_cut (bs : List Nat) {i : Nat} (hi : i < 12) : rfootF (bs.take i) = (0, 0, 1) := by
  unfold rfootF
  rw [if_pos (by rw [List.length_take]; omega)]
theorem parts {bs : List Nat} (h : 12 ≤ bs.length) (a b : Nat) (hab : a + b ≤ 12) : bs.take 12 = bs.take a ++ ((bs.drop a).take b ++ (bs.drop (a + b)).take (12 - (a + b))) := by
  rw [← List.append_assoc, ← List.take_add, ← List.take_add, show a + b + (12 - (a + b)) = 12 by omega]
theorem two_getD {bs : List Nat} {a : Nat} (h : a + 2 ≤ bs.length) : (bs.drop a).take 2 = [bs.getD a 0, bs.getD (a + 1) 0] := by
  have h1 : a < bs.length := by omega
  have h2 : a + 1 < bs.length := by omega
  rw [List.drop_eq_getElem_cons h1, List.drop_eq_getElem_cons h2]
  rw [List.take_succ_cons, List.take_succ_cons, List.take_zero, List.getD_eq_getElem?_getD, List.getD_eq_getElem?_getD, List.getElem?_eq_getElem h1, List.getElem?_eq_getElem h2]
  rfl
theorem four_getD {bs : List Nat} {a : Nat} (h : a + 4 ≤ bs.length) : (bs.drop a).take 4 = [bs.getD a 0, bs.getD (a + 1) 0, bs.getD (a + 2) 0, bs.getD (a + 3) 0] := by
  have h1 : a < bs.length := by omega
  have h2 : a + 1 < bs.length := by omega
  have h3 : a + 2 < bs.length := by omega
  have h4 : a + 3 < bs.length := by omega
  rw [List.drop_eq_getElem_cons h1, List.drop_eq_getElem_cons h2, List.drop_eq_getElem_cons h3, List.drop_eq_getElem_cons h4]
  rw [List.take_succ_cons, List.take_succ_cons, List.take_succ_cons, List.take_succ_cons, List.take_zero]
  simp only [List.getD_eq_getElem?_getD, List.getElem?_eq_getElem h1, List.getElem?_eq_getElem h2, List.getElem?_eq_getElem h3, List.getElem?_eq_getElem h4, Option.getD_some]
theorem dig_get {bs : List Nat} (h : Rc.Dig bs) (k : Nat) : bs.getD k 0 < 256 := by
  rw [List.getD_eq_getElem?_getD]
  cases e : bs[k]? with
  | none => simp
  | some x => exact h x (List.mem_of_getElem? e)
/-- What ReadHeader takes is a header with anything behind it. -/
theorem rhead_is {bs : List Nat} (h0 : (rheadF bs).2 = 0) : ∃ k : Nat, kind (k : Int) = true ∧ rheadF bs = ((k : Int), 0) ∧ 12 ≤ bs.length ∧ bs.take 12 = headB k := by
  unfold rheadF at h0 ⊢
  by_cases c1 : bs.length < 12
  · rw [if_pos c1] at h0; simp at h0
  rw [if_neg c1] at h0 ⊢
  by_cases c2 : bs.take 6 ≠ F6
  · rw [if_pos c2] at h0; simp at h0
  rw [if_neg c2] at h0 ⊢
  by_cases c3 : (bs.drop 8).take 4 ≠ crc4 ((bs.drop 6).take 2)
  · rw [if_pos c3] at h0; simp at h0
  rw [if_neg c3] at h0 ⊢
  by_cases c4 : bs.getD 6 0 ≠ 0 ∨ kind (bs.getD 7 0) = false
  · rw [if_pos c4] at h0; simp at h0
  rw [if_neg c4]
  have c2 := Decidable.not_not.1 c2
  have c3 := Decidable.not_not.1 c3
  obtain ⟨c5, c6⟩ := not_or.1 c4
  have c5 := Decidable.not_not.1 c5
  have hf : (bs.drop 6).take 2 = flags (bs.getD 7 0) := by rw [two_getD (by omega), c5]; rfl
  refine ⟨bs.getD 7 0, by simpa using c6, rfl, by omega, ?_⟩
  have hp := parts (bs := bs) (by omega) 6 2 (by omega)
  rw [hp, c2, hf]
  unfold headB
  rw [← hf, ← c3]
/-- What ReadFooter takes is a footer with anything behind it. -/
theorem rfoot_is {bs : List Nat} (hd : Rc.Dig bs) (h0 : (rfootF bs).2.2 = 0) : ∃ k n : Nat, kind (k : Int) = true ∧ 4 ≤ n ∧ n ≤ 17179869184 ∧ n % 4 = 0 ∧ rfootF bs = ((k : Int), (n : Int), 0) ∧ 12 ≤ bs.length ∧ bs.take 12 = footB k n := by
  unfold rfootF at h0 ⊢
  by_cases c1 : bs.length < 12
  · rw [if_pos c1] at h0; simp at h0
  rw [if_neg c1] at h0 ⊢
  by_cases c2 : (bs.drop 10).take 2 ≠ E2
  · rw [if_pos c2] at h0; simp at h0
  rw [if_neg c2] at h0 ⊢
  by_cases c3 : bs.take 4 ≠ crc4 ((bs.drop 4).take 6)
  · rw [if_pos c3] at h0; simp at h0
  rw [if_neg c3] at h0 ⊢
  by_cases c4 : bs.getD 8 0 ≠ 0 ∨ kind (bs.getD 9 0) = false
  · rw [if_pos c4] at h0; simp at h0
  rw [if_neg c4]
  have c2 := Decidable.not_not.1 c2
  have c3 := Decidable.not_not.1 c3
  obtain ⟨c5, c6⟩ := not_or.1 c4
  have c5 := Decidable.not_not.1 c5
  have hq := four_getD (bs := bs) (a := 4) (by omega)
  have q0 := dig_get hd 4
  have q1 := dig_get hd (4 + 1)
  have q2 := dig_get hd (4 + 2)
  have q3 := dig_get hd (4 + 3)
  have hb := low4_bd q0 q1 q2 q3
  have hl := low_low4 q0 q1 q2 q3
  rw [← hq] at hb hl
  have hf : (bs.drop 8).take 2 = flags (bs.getD 9 0) := by rw [two_getD (by omega), c5]; rfl
  obtain ⟨L, hL⟩ : ∃ L, low4 ((bs.drop 4).take 4) = L := ⟨_, rfl⟩
  rw [hL] at hb hl ⊢
  have hs : (bs.drop 4).take 6 = six (bs.getD 9 0) (4 * (L + 1)) := by
    unfold six
    rw [show 4 * (L + 1) / 4 - 1 = L by omega, hl, ← hf, show 6 = 4 + 2 from rfl, List.take_add, List.drop_drop]
  refine ⟨bs.getD 9 0, 4 * (L + 1), by simpa using c6, by omega, by omega, by omega, by simp, by omega, ?_⟩
  have hp := parts (bs := bs) (by omega) 4 6 (by omega)
  rw [hp, hs]
  unfold footB
  rw [← hs, ← c3, ← c2]
/-- Carried on over bytes with their own sum behind them: that hangs on the state alone. -/
theorem more_own2 {x y : List Nat} (hx : Rc.Dig x) (hy : Rc.Dig y) (hl : x.length = y.length) (s : Nat) : Cq.Crc.more Cq.Crc.P32 32 s (x ++ crc4 x) = Cq.Crc.more Cq.Crc.P32 32 s (y ++ crc4 y) := by
  rw [Cq.Crc.more_join _ _ s (x ++ crc4 x), Cq.Crc.more_join _ _ s (y ++ crc4 y), crc_own hx, crc_own hy]
  simp only [List.length_append, crc4_len, hl]
/-- A header with bits turned over is not read. -/
theorem rhead_told {k : Nat} (hk : kind (k : Int) = true) {l : List Nat} {at_ M : Nat} (ht : Cq.Turned (headB k) l at_ 32 M) (h0 : (rheadF l).2 = 0) : M = 0 := by
  obtain ⟨j, hj, _, h12, he⟩ := rhead_is h0
  have hl : l = headB j := by rw [← he, List.take_of_length_le (by rw [ht.len, headB_len]; omega)]
  by_cases e : M = 0
  · exact e
  · have hkb := kind_nat.1 hk
    have hjb := kind_nat.1 hj
    have := (Cq.told32 (q := 1) ht ⟨fun f => by omega, fun f => absurd f e⟩).1 (by
      rw [hl]
      unfold headB
      rw [Cq.Crc.more_append, Cq.Crc.more_append _ _ _ F6]
      exact more_own2 (x := flags j) (y := flags k) (flags_dig (by omega)) (flags_dig (by omega)) rfl _)
    omega
/-- A footer with bits turned over in one of its three parts is not read. -/
theorem rfoot_told {k n : Nat} (hk : kind (k : Int) = true) {l : List Nat} {at_ M : Nat} (ht : Cq.Turned (footB k n) l at_ 32 M) (hw : (∀ q, 4 ≤ q → l[q]? = (footB k n)[q]?) ∨ (∀ q, q < 4 ∨ 10 ≤ q → l[q]? = (footB k n)[q]?) ∨ (∀ q, q < 10 → l[q]? = (footB k n)[q]?)) (h0 : (rfootF l).2.2 = 0) : M = 0 := by
  obtain ⟨j, m, hj, _, _, _, _, h12, he⟩ := rfoot_is ht.byt h0
  have hl : l = footB j m := by rw [← he, List.take_of_length_le (by rw [ht.len, footB_len]; omega)]
  have hkb := kind_nat.1 hk
  have hjb := kind_nat.1 hj
  by_cases e : M = 0
  · exact e
  · have key : Cq.Crc.more Cq.Crc.P32 32 0 l = Cq.Crc.more Cq.Crc.P32 32 0 (footB k n) → M = 0 := fun f => by
      have := (Cq.told32 (q := 1) ht ⟨fun f => by omega, fun f => absurd f e⟩).1 f
      omega
    refine key ?_
    rw [hl] at hw ⊢
    have d4 : ∀ (k n : Nat), (footB k n).drop 4 = six k n ++ E2 := fun k n => by
      unfold footB
      rw [← crc4_len (six k n), List.drop_left]
    have t4 : ∀ (k n : Nat), (footB k n).take 4 = crc4 (six k n) := fun k n => by
      unfold footB
      rw [← crc4_len (six k n), List.take_left]
    rcases hw with h | h | h
    · have h1 : (footB j m).drop 4 = (footB k n).drop 4 := List.ext_getElem? (fun i => by rw [List.getElem?_drop, List.getElem?_drop]; exact h _ (by omega))
      rw [d4, d4] at h1
      have h2 : six j m = six k n := List.append_cancel_right h1
      unfold footB
      rw [h2]
    · have h1 : (footB j m).take 4 = (footB k n).take 4 := List.ext_getElem? (fun i => by
        rw [List.getElem?_take, List.getElem?_take]
        split
        · exact h _ (by omega)
        · rfl)
      rw [t4, t4] at h1
      have a1 := more_dig (six_dig (k := j) (n := m) (by omega))
      have a2 := more_dig (six_dig (k := k) (n := n) (by omega))
      have h2 : Cq.Crc.more Cq.Crc.P32 32 0 (six j m) = Cq.Crc.more Cq.Crc.P32 32 0 (six k n) := by
        have b1 := low4_low a1
        have b2 := low4_low a2
        unfold crc4 at h1
        rw [← b1, ← b2, h1]
      unfold footB
      rw [Cq.Crc.more_append, Cq.Crc.more_append _ _ _ (crc4 (six k n)), Cq.Crc.more_append, Cq.Crc.more_append _ _ _ (six k n), h1]
      rw [Cq.Crc.more_join _ _ _ (six j m), Cq.Crc.more_join _ _ _ (six k n), h2, six_len, six_len]
    · have h1 : (footB j m).take 10 = (footB k n).take 10 := List.ext_getElem? (fun i => by
        rw [List.getElem?_take, List.getElem?_take]
        split
        · exact h _ (by omega)
        · rfl)
      have e10 : ∀ (k n : Nat), footB k n = (footB k n).take 10 ++ E2 := fun k n => by
        have hx : footB k n = (crc4 (six k n) ++ six k n) ++ E2 := by unfold footB; simp
        have hlen : (crc4 (six k n) ++ six k n).length = 10 := by simp [crc4_len, six_len]
        conv => rhs; rw [hx, ← hlen, List.take_left]
        exact hx
      rw [e10 j m, h1, ← e10]
end Fr24
end Go.Proofs.YtikokgngkagieaaDoor
