/- Several texts in one, none of a statement by itself: Hda, Hdb, Hdc. -/
import Derived.Test.YtkncbanodpfccaaDoorBoundB
import Derived.Test.YtkncbanodpfccaaDoorCq
/- Headers' bytes as plain mathematics; of no statement by themselves. -/
namespace Go.Proofs.YtkncbanodpfccaaDoor
open Go.RowKit
set_option linter.unusedVariables false
set_option linter.unusedSimpArgs false
/-- The CRC-32 as four bytes. -/
def crc4 (bs : List Nat) : List Nat := Cq.Crc.low (Cq.Crc.more Cq.Crc.P32 32 0 bs) 4
theorem low_len (v n : Nat) : (Cq.Crc.low v n).length = n := by
  induction n generalizing v with
  | zero => rfl
  | succ n ih => simp [Cq.Crc.low, ih]
theorem low_dig (v n : Nat) : Rc.Dig (Cq.Crc.low v n) := by
  induction n generalizing v with
  | zero => exact fun x hx => by cases hx
  | succ n ih =>
    intro x hx
    rcases List.mem_cons.1 hx with rfl | hx
    · omega
    · exact ih _ x hx
theorem crc4_len (bs : List Nat) : (crc4 bs).length = 4 := low_len _ _
theorem crc4_dig (bs : List Nat) : Rc.Dig (crc4 bs) := low_dig _ _
theorem more_dig {bs : List Nat} (h : Rc.Dig bs) : Cq.Crc.more Cq.Crc.P32 32 0 bs < 4294967296 := Cq.more32_lt h (by decide)
/-- Bytes with their own sum behind them have one sum. -/
theorem crc_own {bs : List Nat} (h : Rc.Dig bs) : Cq.Crc.more Cq.Crc.P32 32 0 (bs ++ crc4 bs) = Cq.Crc.more Cq.Crc.P32 32 0 [0, 0, 0, 0] := by
  have := Cq.Crc.more_own Cq.Crc.P32 4 bs (more_dig h)
  exact this
/-- Bits turned in bytes with their own sum behind them: then that is not their sum. -/
theorem crc_told {xs l : List Nat} {at_ M : Nat} (h : Cq.Turned xs l at_ 32 M) (hx : ∃ b, Rc.Dig b ∧ xs = b ++ crc4 b) (hl : ∃ b, Rc.Dig b ∧ l = b ++ crc4 b) : M = 0 := by
  obtain ⟨b, hb, rfl⟩ := hx
  obtain ⟨c, hc, rfl⟩ := hl
  by_cases e : M = 0
  · exact e
  · have := (Cq.told32 (q := 1) h ⟨fun f => by omega, fun f => absurd f e⟩).1 (by rw [crc_own hb, crc_own hc])
    omega
/-- A header: its sizes (-1: not told), its filters, its length. -/
structure Hed where
  pk : Int
  sz : Int
  fs : List Flt
  by_ : Int
namespace Hd21
open Cn20
/-- The filters' bytes, or the first error. -/
def putAll : List Flt → List Nat × Int
  | [] => ([], 0)
  | f :: r => if (putF f).2 ≠ 0 then ([], (putF f).2) else if (putAll r).2 ≠ 0 then ([], (putAll r).2) else ((putF f).1 ++ (putAll r).1, 0)
def told (v : Int) : List Nat := if v = -1 then [] else vbn v.toNat
def flags (pk sz : Int) (n : Nat) : Nat := n - 1 + (if pk = -1 then 0 else 64) + (if sz = -1 then 0 else 128)
/-- How many zeros there must be. -/
def need (n : Nat) : Nat := (6 - n % 4) % 4
def room0 (h : Hed) : List Nat := told h.pk ++ told h.sz ++ (putAll h.fs).1
def room (h : Hed) (p : Nat) : List Nat := room0 h ++ List.replicate (need (room0 h).length) 0 ++ List.replicate (4 * p) 0
def body (h : Hed) (p : Nat) : List Nat := [((room h p).length + 6) / 4 - 1, flags h.pk h.sz h.fs.length] ++ room h p
/-- Which error Put answers, 0: none. -/
def putE (h : Hed) (pad : Int) : Int :=
  if (h.pk ≠ -1 ∧ h.pk < 1) ∨ h.sz < -1 ∨ pad < 0 then 7
  else if h.fs.length < 1 ∨ 4 < h.fs.length then 6
  else if (putAll h.fs).2 ≠ 0 then (putAll h.fs).2
  else if 1018 < ((room0 h).length + need (room0 h).length : Nat) + 4 * pad then 7 else 0
/-- What Put answers. -/
def putH (h : Hed) (pad : Int) : List Nat × Int := if putE h pad ≠ 0 then ([], putE h pad) else (body h pad.toNat ++ crc4 (body h pad.toNat), 0)
/-- The filters that lie there, n of them; what is left; or the error. -/
noncomputable def getAll : Nat → List Nat → List Flt × List Nat × Int
  | 0, bs => ([], bs, 0)
  | n + 1, bs => if (getF bs).2.2 ≠ 0 then ([], [], if (getF bs).2.2 = 1 then 2 else (getF bs).2.2)
    else if (getAll n (bs.drop (getF bs).2.1)).2.2 ≠ 0 then ([], [], (getAll n (bs.drop (getF bs).2.1)).2.2)
    else ((getF bs).1 :: (getAll n (bs.drop (getF bs).2.1)).1, (getAll n (bs.drop (getF bs).2.1)).2.1, 0)
def zeroH : Hed := ⟨0, 0, [], 0⟩
/-- A told size, if the flags say so: it, and what is left; or an error. -/
noncomputable def getSz (on : Bool) (bs : List Nat) : Int × List Nat × Int := if on then (if (getN bs).2.2 ≠ 0 then (0, [], 2) else ((getN bs).1, bs.drop (getN bs).2.1, 0)) else (-1, bs, 0)
/-- What the room tells. -/
noncomputable def getR (fl : Nat) (r : List Nat) : (Int × Int × List Flt) × Int :=
  if (getSz (fl / 64 % 2 = 1) r).2.2 ≠ 0 ∨ (getSz (fl / 64 % 2 = 1) r).1 = 0 then ((0, 0, []), 2)
  else if (getSz (fl / 128 = 1) (getSz (fl / 64 % 2 = 1) r).2.1).2.2 ≠ 0 then ((0, 0, []), 2)
  else if (getAll (fl % 4 + 1) (getSz (fl / 128 = 1) (getSz (fl / 64 % 2 = 1) r).2.1).2.1).2.2 ≠ 0 then ((0, 0, []), (getAll (fl % 4 + 1) (getSz (fl / 128 = 1) (getSz (fl / 64 % 2 = 1) r).2.1).2.1).2.2)
  else if ∃ x ∈ (getAll (fl % 4 + 1) (getSz (fl / 128 = 1) (getSz (fl / 64 % 2 = 1) r).2.1).2.1).2.1, x ≠ 0 then ((0, 0, []), 4)
  else if (readF (getAll (fl % 4 + 1) (getSz (fl / 128 = 1) (getSz (fl / 64 % 2 = 1) r).2.1).2.1).1).2.2 ≠ 0 then ((0, 0, []), (readF (getAll (fl % 4 + 1) (getSz (fl / 128 = 1) (getSz (fl / 64 % 2 = 1) r).2.1).2.1).1).2.2)
  else (((getSz (fl / 64 % 2 = 1) r).1, (getSz (fl / 128 = 1) (getSz (fl / 64 % 2 = 1) r).2.1).1, (getAll (fl % 4 + 1) (getSz (fl / 128 = 1) (getSz (fl / 64 % 2 = 1) r).2.1).2.1).1), 0)
/-- How many bytes a header has that begins so. -/
def size (bs : List Nat) : Nat := 4 * bs.getD 0 0 + 4
/-- What Get answers. -/
noncomputable def getH (bs : List Nat) : Hed × Int :=
  if bs.length = 0 then (zeroH, 1)
  else if bs.getD 0 0 = 0 then (zeroH, 2)
  else if bs.length < size bs then (zeroH, 1)
  else if (bs.drop (size bs - 4)).take 4 ≠ crc4 (bs.take (size bs - 4)) then (zeroH, 3)
  else if bs.getD 1 0 / 4 % 16 ≠ 0 then (zeroH, 4)
  else if (getR (bs.getD 1 0) ((bs.take (size bs - 4)).drop 2)).2 ≠ 0 then (zeroH, (getR (bs.getD 1 0) ((bs.take (size bs - 4)).drop 2)).2)
  else (⟨(getR (bs.getD 1 0) ((bs.take (size bs - 4)).drop 2)).1.1, (getR (bs.getD 1 0) ((bs.take (size bs - 4)).drop 2)).1.2.1, (getR (bs.getD 1 0) ((bs.take (size bs - 4)).drop 2)).1.2.2, size bs⟩, 0)
end Hd21
end Go.Proofs.YtkncbanodpfccaaDoor

/- Headers there and back, as plain mathematics; of no statement by themselves. -/
namespace Go.Proofs.YtkncbanodpfccaaDoor
open Go.RowKit
set_option linter.unusedVariables false
set_option linter.unusedSimpArgs false
namespace Hd21
open Cn20
theorem putF_cases (f : Flt) : ((putF f).2 = 0 ∧ f.id ≤ 9223372036854775807) ∨ ((putF f).2 = 7 ∧ 9223372036854775807 < f.id ∧ (putF f).1 = []) := by
  unfold putF
  split
  · rename_i h; exact .inr ⟨rfl, h, rfl⟩
  · exact .inl ⟨rfl, by omega⟩
theorem putAll_cons (f : Flt) (r : List Flt) : putAll (f :: r) = if (putF f).2 ≠ 0 then ([], (putF f).2) else if (putAll r).2 ≠ 0 then ([], (putAll r).2) else ((putF f).1 ++ (putAll r).1, 0) := rfl
theorem putAll_two : ∀ (l : List Flt), (putAll l).2 = 0 ∨ ((putAll l).2 = 7 ∧ (putAll l).1 = [])
  | [] => .inl rfl
  | f :: r => by
    rw [putAll_cons]
    split
    · rename_i k
      rcases putF_cases f with ⟨h, _⟩ | ⟨h, _, _⟩
      · exact absurd h k
      · exact .inr ⟨h, rfl⟩
    · split
      · rename_i k
        rcases putAll_two r with h | ⟨h, _⟩
        · exact absurd h k
        · exact .inr ⟨h, rfl⟩
      · exact .inl rfl
theorem putAll_ok {f : Flt} {r : List Flt} (h : (putAll (f :: r)).2 = 0) : (putF f).2 = 0 ∧ f.id ≤ 9223372036854775807 ∧ (putAll r).2 = 0 ∧ (putAll (f :: r)).1 = (putF f).1 ++ (putAll r).1 := by
  rw [putAll_cons] at h ⊢
  split at h
  · rename_i k; exact absurd h k
  · rename_i k
    have k := Decidable.not_not.1 k
    split at h
    · rename_i m; exact absurd h m
    · rename_i m
      have m := Decidable.not_not.1 m
      rw [if_neg (by simpa using k), if_neg (by simpa using m)]
      rcases putF_cases f with ⟨_, e⟩ | ⟨e, _, _⟩
      · exact ⟨k, e, m, rfl⟩
      · omega
theorem putAll_dig : ∀ (l : List Flt), (∀ f ∈ l, Rc.Dig f.ps) → Rc.Dig (putAll l).1
  | [], _ => fun x hx => by cases hx
  | f :: r, h => by
    rw [putAll_cons]
    split
    · exact fun x hx => by cases hx
    · split
      · exact fun x hx => by cases hx
      · exact dig_app (put_dig (h f (by simp))) (putAll_dig r (fun g hg => h g (by simp [hg])))
theorem getAll_put : ∀ (l : List Flt) (t : List Nat), (putAll l).2 = 0 → (∀ f ∈ l, f.ps.length ≤ 9223372036854775807) → getAll l.length ((putAll l).1 ++ t) = (l, t, 0)
  | [], t, _, _ => rfl
  | f :: r, t, h, hl => by
    obtain ⟨p1, p2, p3, p4⟩ := putAll_ok h
    have g := get_put p2 (hl f (by simp)) ((putAll r).1 ++ t)
    have ih := getAll_put r t p3 (fun x hx => hl x (by simp [hx]))
    rw [p4, List.append_assoc, List.length_cons, getAll, g]
    simp only [List.drop_left, ih]
    simp
theorem getSz_told {v : Int} (hv : v = -1 ∨ (0 ≤ v ∧ v ≤ 9223372036854775807)) (on : Bool) (hon : on = decide (v ≠ -1)) (t : List Nat) : getSz on (told v ++ t) = (v, t, 0) := by
  subst hon
  rcases hv with rfl | ⟨h0, h1⟩
  · rfl
  · have e : v ≠ -1 := by omega
    unfold getSz told
    rw [if_neg e, if_pos (by simpa using e), getN_vbn (by omega)]
    simp only [ne_eq, not_true_eq_false, if_false, List.drop_left]
    rw [Int.toNat_of_nonneg h0]
theorem told_dig (v : Int) : Rc.Dig (told v) := by
  unfold told
  split
  · exact fun x hx => by cases hx
  · exact vbn_dig _
theorem flags_is (pk sz : Int) (n : Nat) (h1 : 1 ≤ n) (h4 : n ≤ 4) : flags pk sz n < 256 ∧ flags pk sz n % 4 + 1 = n ∧ flags pk sz n / 4 % 16 = 0 ∧ ((flags pk sz n / 64 % 2 = 1) ↔ pk ≠ -1) ∧ ((flags pk sz n / 128 = 1) ↔ sz ≠ -1) := by
  unfold flags
  by_cases ha : pk = -1 <;> by_cases hb : sz = -1
  · rw [if_pos ha, if_pos hb]; refine ⟨by omega, by omega, by omega, ⟨fun f => by omega, fun f => absurd ha f⟩, ⟨fun f => by omega, fun f => absurd hb f⟩⟩
  · rw [if_pos ha, if_neg hb]; refine ⟨by omega, by omega, by omega, ⟨fun f => by omega, fun f => absurd ha f⟩, ⟨fun f => hb, fun f => by omega⟩⟩
  · rw [if_neg ha, if_pos hb]; refine ⟨by omega, by omega, by omega, ⟨fun f => ha, fun f => by omega⟩, ⟨fun f => by omega, fun f => absurd hb f⟩⟩
  · rw [if_neg ha, if_neg hb]; refine ⟨by omega, by omega, by omega, ⟨fun f => ha, fun f => by omega⟩, ⟨fun f => hb, fun f => by omega⟩⟩
theorem need_is (n : Nat) : need n < 4 ∧ (n + need n) % 4 = 2 := by unfold need; omega
/-- What Put takes. -/
theorem putE_0 {h : Hed} {pad : Int} (e : putE h pad = 0) : (h.pk = -1 ∨ 1 ≤ h.pk) ∧ -1 ≤ h.sz ∧ 0 ≤ pad ∧ 1 ≤ h.fs.length ∧ h.fs.length ≤ 4 ∧ (putAll h.fs).2 = 0 ∧ ((room0 h).length + need (room0 h).length : Nat) + 4 * pad ≤ 1018 := by
  unfold putE at e
  split at e
  · omega
  · split at e
    · omega
    · split at e
      · rename_i k; exact absurd e k
      · rename_i k
        have k := Decidable.not_not.1 k
        split at e
        · omega
        · refine ⟨by omega, by omega, by omega, by omega, by omega, k, by omega⟩
theorem room_len (h : Hed) (p : Nat) : (room h p).length = (room0 h).length + need (room0 h).length + 4 * p := by
  unfold room
  simp only [List.length_append, List.length_replicate]
theorem body_len (h : Hed) (p : Nat) : (body h p).length = (room h p).length + 2 := by unfold body; simp
theorem body_is {h : Hed} {pad : Int} (e : putE h pad = 0) : (body h pad.toNat).length % 4 = 0 ∧ 8 ≤ (body h pad.toNat).length + 4 ∧ (body h pad.toNat).length ≤ 1020 ∧ 4 * ((room h pad.toNat).length + 6) / 4 - 1 + 0 = 4 * ((room h pad.toNat).length + 6) / 4 - 1 ∧ 1 ≤ ((room h pad.toNat).length + 6) / 4 - 1 ∧ ((room h pad.toNat).length + 6) / 4 - 1 ≤ 255 ∧ 4 * (((room h pad.toNat).length + 6) / 4 - 1) + 4 = (body h pad.toNat).length + 4 := by
  obtain ⟨_, _, hp, _, _, _, hm⟩ := putE_0 e
  have h1 := room_len h pad.toNat
  have h2 := body_len h pad.toNat
  have h3 := need_is (room0 h).length
  omega
theorem body_dig {h : Hed} {pad : Int} (e : putE h pad = 0) (hd : ∀ f ∈ h.fs, Rc.Dig f.ps) : Rc.Dig (body h pad.toNat) := by
  obtain ⟨_, _, _, h1, h4, _, _⟩ := putE_0 e
  have hb := body_is e
  have hx0 : ((room h pad.toNat).length + 6) / 4 - 1 < 256 := by omega
  unfold body
  refine dig_app (fun x hx => ?_) ?_
  · rcases List.mem_cons.1 hx with rfl | hx
    · exact hx0
    · rw [List.mem_singleton.1 hx]
      exact (flags_is h.pk h.sz h.fs.length h1 h4).1
  unfold room room0
  refine (dig_app (dig_app (dig_app (dig_app (told_dig _) (told_dig _)) (putAll_dig _ hd)) ?_) ?_)
  · exact fun x hx => by obtain ⟨_, rfl⟩ := List.mem_replicate.1 hx; omega
  · exact fun x hx => by obtain ⟨_, rfl⟩ := List.mem_replicate.1 hx; omega
theorem putH_0 {h : Hed} {pad : Int} (e : putE h pad = 0) : putH h pad = (body h pad.toNat ++ crc4 (body h pad.toNat), 0) := by unfold putH; rw [if_neg (by simpa using e)]
theorem putH_e (h : Hed) (pad : Int) : (putH h pad).2 = putE h pad ∧ (putE h pad ≠ 0 → (putH h pad).1 = []) := by
  unfold putH
  split
  · exact ⟨rfl, fun _ => rfl⟩
  · rename_i k
    have k := Decidable.not_not.1 k
    exact ⟨k.symm, fun f => absurd k f⟩
theorem putH_len {h : Hed} {pad : Int} (e : putE h pad = 0) : (putH h pad).1.length = (body h pad.toNat).length + 4 := by rw [putH_0 e]; simp [crc4_len]
theorem putH_dig {h : Hed} {pad : Int} (hd : ∀ f ∈ h.fs, Rc.Dig f.ps) : Rc.Dig (putH h pad).1 := by
  by_cases e : putE h pad = 0
  · rw [putH_0 e]
    exact dig_app (body_dig e hd) (crc4_dig _)
  · rw [(putH_e h pad).2 e]
    exact fun x hx => by cases hx
/-- The room tells what it was laid for. -/
theorem getR_room {h : Hed} {pad : Int} (e : putE h pad = 0) (hs : h.sz ≤ 9223372036854775807) (hk : h.pk ≤ 9223372036854775807) (hl : ∀ f ∈ h.fs, f.ps.length ≤ 9223372036854775807) : getR (flags h.pk h.sz h.fs.length) (room h pad.toNat) = if (readF h.fs).2.2 ≠ 0 then ((0, 0, []), (readF h.fs).2.2) else ((h.pk, h.sz, h.fs), 0) := by
  obtain ⟨k1, k2, k3, k4, k5, k6, k7⟩ := putE_0 e
  obtain ⟨f1, f2, f3, f4, f5⟩ := flags_is h.pk h.sz h.fs.length k4 k5
  have e1 : room h pad.toNat = told h.pk ++ (told h.sz ++ ((putAll h.fs).1 ++ (List.replicate (need (room0 h).length) 0 ++ List.replicate (4 * pad.toNat) 0))) := by unfold room; rw [show room0 h = told h.pk ++ told h.sz ++ (putAll h.fs).1 from rfl]; simp
  have g1 := getSz_told (v := h.pk) (by omega) (decide (flags h.pk h.sz h.fs.length / 64 % 2 = 1)) (by simp only [f4]) (told h.sz ++ ((putAll h.fs).1 ++ (List.replicate (need (room0 h).length) 0 ++ List.replicate (4 * pad.toNat) 0)))
  have g2 := getSz_told (v := h.sz) (by omega) (decide (flags h.pk h.sz h.fs.length / 128 = 1)) (by simp only [f5]) ((putAll h.fs).1 ++ (List.replicate (need (room0 h).length) 0 ++ List.replicate (4 * pad.toNat) 0))
  have g3 := getAll_put h.fs (List.replicate (need (room0 h).length) 0 ++ List.replicate (4 * pad.toNat) 0) k6 hl
  rw [e1]
  unfold getR
  rw [g1]
  simp only
  rw [g2]
  simp only
  rw [f2, g3]
  simp only
  rw [if_neg (by simp; omega), if_neg (by simp), if_neg (by simp), if_neg (by
    rintro ⟨x, hx, hne⟩
    rcases List.mem_append.1 hx with h | h
    · exact hne (List.mem_replicate.1 h).2
    · exact hne (List.mem_replicate.1 h).2)]
theorem size_body {h : Hed} {pad : Int} (e : putE h pad = 0) (t : List Nat) : size ((putH h pad).1 ++ t) = (putH h pad).1.length ∧ ((putH h pad).1 ++ t).getD 0 0 ≠ 0 ∧ ((putH h pad).1 ++ t).getD 1 0 = flags h.pk h.sz h.fs.length := by
  have hb := body_is e
  have hl := putH_len e
  have h0 : ((putH h pad).1 ++ t).getD 0 0 = ((room h pad.toNat).length + 6) / 4 - 1 := by rw [putH_0 e]; simp [body]
  refine ⟨?_, ?_, by rw [putH_0 e]; simp [body]⟩
  · unfold size
    rw [h0, hl]
    omega
  · rw [h0]
    omega
/-- There and back. -/
theorem get_putH {h : Hed} {pad : Int} (e : putE h pad = 0) (hs : h.sz ≤ 9223372036854775807) (hk : h.pk ≤ 9223372036854775807) (hl : ∀ f ∈ h.fs, f.ps.length ≤ 9223372036854775807) (t : List Nat) : getH ((putH h pad).1 ++ t) = if (readF h.fs).2.2 ≠ 0 then (zeroH, (readF h.fs).2.2) else (⟨h.pk, h.sz, h.fs, (putH h pad).1.length⟩, 0) := by
  obtain ⟨s1, s2, s3⟩ := size_body e t
  have hln := putH_len e
  have hb := body_is e
  obtain ⟨k1, k2, k3, k4, k5, k6, k7⟩ := putE_0 e
  obtain ⟨f1, f2, f3, f4, f5⟩ := flags_is h.pk h.sz h.fs.length k4 k5
  have hr := getR_room e hs hk hl
  have e1 : ((putH h pad).1 ++ t).take ((putH h pad).1.length - 4) = body h pad.toNat := by
    rw [List.take_append_of_le_length (by omega), hln, putH_0 e, show (body h pad.toNat).length + 4 - 4 = (body h pad.toNat).length by omega, List.take_left]
  have e2 : (((putH h pad).1 ++ t).drop ((putH h pad).1.length - 4)).take 4 = crc4 (body h pad.toNat) := by
    rw [List.drop_append_of_le_length (by omega), hln, putH_0 e, show (body h pad.toNat).length + 4 - 4 = (body h pad.toNat).length by omega, List.drop_left, List.take_append_of_le_length (by rw [crc4_len]; omega), List.take_of_length_le (by rw [crc4_len]; omega)]
  have e3 : (body h pad.toNat).drop 2 = room h pad.toNat := rfl
  unfold getH
  rw [s1, s3, e1, e2, e3, hr]
  rw [if_neg (by rw [List.length_append]; omega), if_neg s2, if_neg (by rw [List.length_append]; omega), if_neg (by simp), if_neg (by omega)]
  split
  · rfl
  · rw [if_neg (by simp)]
/-- A proper beginning is cut short. -/
theorem get_cutH {h : Hed} {pad : Int} (e : putE h pad = 0) {i : Nat} (hi : i < (putH h pad).1.length) : getH ((putH h pad).1.take i) = (zeroH, 1) := by
  obtain ⟨s1, s2, s3⟩ := size_body e []
  rw [List.append_nil] at s1 s2 s3
  unfold getH
  by_cases h0 : i = 0
  · subst h0
    simp
  · have hg : ((putH h pad).1.take i).getD 0 0 = (putH h pad).1.getD 0 0 := by
      rw [List.getD_eq_getElem?_getD, List.getD_eq_getElem?_getD, List.getElem?_take, if_pos (by omega)]
    have hsz : size ((putH h pad).1.take i) = (putH h pad).1.length := by
      unfold size at s1 ⊢
      rw [hg]
      exact s1
    rw [hsz, hg, if_neg (by rw [List.length_take]; omega), if_neg s2, if_pos (by rw [List.length_take]; omega)]
end Hd21
end Go.Proofs.YtkncbanodpfccaaDoor

/- What is read is laid again; bursts are told: plain mathematics; of no statement by themselves. -/
namespace Go.Proofs.YtkncbanodpfccaaDoor
open Go.RowKit
set_option linter.unusedVariables false
set_option linter.unusedSimpArgs false
namespace Hd21
open Cn20
theorem getSz_back {on : Bool} {r : List Nat} (hd : Rc.Dig r) (h : (getSz on r).2.2 = 0) : r = told (getSz on r).1 ++ (getSz on r).2.1 ∧ ((getSz on r).1 = -1 ∨ (0 ≤ (getSz on r).1 ∧ (getSz on r).1 ≤ 9223372036854775807)) ∧ on = decide ((getSz on r).1 ≠ -1) := by
  unfold getSz at h ⊢
  cases on with
  | false => exact ⟨rfl, .inl rfl, rfl⟩
  | true =>
    simp only [if_true] at h ⊢
    split at h
    · simp at h
    · rename_i k
      have k := Decidable.not_not.1 k
      rw [if_neg (by simpa using k)]
      obtain ⟨b1, b2⟩ := getN_back hd k
      simp only
      refine ⟨?_, .inr ⟨by omega, by omega⟩, by first | (simp; done) | (simp; omega)⟩
      unfold told
      rw [if_neg (by omega), Int.toNat_natCast, b1, List.take_append_drop]
theorem getAll_back : ∀ (n : Nat) (r : List Nat), Rc.Dig r → (getAll n r).2.2 = 0 → (getAll n r).1.length = n ∧ (putAll (getAll n r).1).2 = 0 ∧ r = (putAll (getAll n r).1).1 ++ (getAll n r).2.1 ∧ (∀ f ∈ (getAll n r).1, Rc.Dig f.ps)
  | 0, r, _, _ => ⟨rfl, rfl, rfl, fun f hf => by cases hf⟩
  | n + 1, r, hd, h => by
    rw [getAll] at h ⊢
    split at h
    · rename_i k
      simp only at h
      split at h
      · omega
      · exact absurd h k
    · rename_i k
      have k := Decidable.not_not.1 k
      split at h
      · rename_i m; exact absurd h m
      · rename_i m
        have m := Decidable.not_not.1 m
        rw [if_neg (by simpa using k), if_neg (by simpa using m)]
        obtain ⟨a1, a2, a3⟩ := get_back hd k
        obtain ⟨b1, b2, b3, b4⟩ := getAll_back n (r.drop (getF r).2.1) (dig_drop hd _) m
        have hg := get_dig hd
        generalize getAll n (r.drop (getF r).2.1) = g at *
        generalize getF r = q at *
        obtain ⟨q1, q2, q3⟩ := q
        obtain ⟨g1, g2, g3⟩ := g
        simp only at *
        have e2 : (putF q1).2 = 0 := by rw [a1]
        refine ⟨by rw [List.length_cons, b1], ?_, ?_, fun f hf => ?_⟩
        · rw [putAll_cons, if_neg (by simpa using e2), if_neg (by simpa using b2)]
        · rw [putAll_cons, if_neg (by simpa using e2), if_neg (by simpa using b2)]
          simp only
          rw [a1]
          simp only
          rw [List.append_assoc, ← b3, List.take_append_drop]
        · rcases List.mem_cons.1 hf with rfl | hf
          · exact hg
          · exact b4 f hf
theorem flags_back {fl : Nat} {pk sz : Int} {n : Nat} (h : fl < 256) (h4 : fl / 4 % 16 = 0) (hn : n = fl % 4 + 1) (h1 : decide (fl / 64 % 2 = 1) = decide (pk ≠ -1)) (h2 : decide (fl / 128 = 1) = decide (sz ≠ -1)) : fl = flags pk sz n := by
  unfold flags
  by_cases ha : pk = -1 <;> by_cases hb : sz = -1
  · rw [if_pos ha, if_pos hb]
    simp [ha] at h1; simp [hb] at h2
    omega
  · rw [if_pos ha, if_neg hb]
    simp [ha] at h1; simp [hb] at h2
    omega
  · rw [if_neg ha, if_pos hb]
    simp [ha] at h1; simp [hb] at h2
    omega
  · rw [if_neg ha, if_neg hb]
    simp [ha] at h1; simp [hb] at h2
    omega
theorem zeros_is : ∀ (l : List Nat), (∀ x ∈ l, x = 0) → l = List.replicate l.length 0
  | [], _ => rfl
  | x :: l, h => by rw [List.length_cons, List.replicate_succ, ← zeros_is l (fun y hy => h y (by simp [hy])), h x (by simp)]
/-- What is read is laid again, with some zeros. -/
theorem get_backH {bs : List Nat} (hd : Rc.Dig bs) (h0 : (getH bs).2 = 0) : ∃ p : Nat, (getH bs).1.by_ = size bs ∧ size bs ≤ bs.length ∧ putE (getH bs).1 0 = 0 ∧ (putH (getH bs).1 0).1.length + 4 * p = size bs ∧ putH (getH bs).1 (p : Int) = (bs.take (size bs), 0) ∧ (getH bs).1.pk ≤ 9223372036854775807 ∧ (getH bs).1.sz ≤ 9223372036854775807 ∧ (∀ f ∈ (getH bs).1.fs, Rc.Dig f.ps) ∧ size bs ≤ 1024 ∧ (readF (getH bs).1.fs).2.2 = 0 := by
  unfold getH at h0 ⊢
  split at h0
  · simp at h0
  rename_i c1
  split at h0
  · simp at h0
  rename_i c2
  split at h0
  · simp at h0
  rename_i c3
  split at h0
  · simp at h0
  rename_i c4
  have c4 := Decidable.not_not.1 c4
  split at h0
  · simp at h0
  rename_i c5
  have c5 := Decidable.not_not.1 c5
  split at h0
  · rename_i c6; exact absurd h0 c6
  rename_i c6
  have c6 := Decidable.not_not.1 c6
  rw [if_neg c1, if_neg c2, if_neg c3, if_neg (by simpa using c4), if_neg (by simpa using c5), if_neg (by simpa using c6)]
  simp only
  have hb0 : bs.getD 0 0 < 256 := by
    rw [List.getD_eq_getElem?_getD, List.getElem?_eq_getElem (by omega)]
    exact hd _ (List.getElem_mem _)
  have hlen2 : 2 ≤ bs.length := by unfold size at c3; omega
  have hb1 : bs.getD 1 0 < 256 := by
    rw [List.getD_eq_getElem?_getD, List.getElem?_eq_getElem (by omega)]
    exact hd _ (List.getElem_mem _)
  have hn : size bs = 4 * bs.getD 0 0 + 4 := rfl
  obtain ⟨R, hR⟩ : ∃ R, (bs.take (size bs - 4)).drop 2 = R := ⟨_, rfl⟩
  rw [hR] at c6 ⊢
  have hRd : Rc.Dig R := by rw [← hR]; exact dig_drop (dig_take hd _) _
  have hRl : R.length = size bs - 6 := by rw [← hR, List.length_drop, List.length_take]; omega
  obtain ⟨fl, hfl⟩ : ∃ fl, bs.getD 1 0 = fl := ⟨_, rfl⟩
  rw [hfl] at c5 c6 hb1 ⊢
  unfold getR at c6 ⊢
  split at c6
  · simp at c6
  rename_i d1
  split at c6
  · simp at c6
  rename_i d2
  have d2 := Decidable.not_not.1 d2
  split at c6
  · rename_i d3; exact absurd c6 d3
  rename_i d3
  have d3 := Decidable.not_not.1 d3
  split at c6
  · simp at c6
  rename_i d4
  split at c6
  · rename_i d5; exact absurd c6 d5
  rename_i d5
  have d5 := Decidable.not_not.1 d5
  rw [if_neg d1, if_neg (by simpa using d2), if_neg (by simpa using d3), if_neg d4, if_neg (by simpa using d5)]
  simp only
  have d0 : (getSz (decide (fl / 64 % 2 = 1)) R).2.2 = 0 := by
    by_cases e : (getSz (decide (fl / 64 % 2 = 1)) R).2.2 = 0
    · exact e
    · exact absurd (.inl e) d1
  have d1 : (getSz (decide (fl / 64 % 2 = 1)) R).1 ≠ 0 := fun e => d1 (.inr e)
  obtain ⟨s1, s2, s3⟩ := getSz_back hRd d0
  generalize getSz (decide (fl / 64 % 2 = 1)) R = A at *
  obtain ⟨pk, r1, ea⟩ := A
  simp only at *
  have hr1 : Rc.Dig r1 := fun x hx => hRd x (by rw [s1]; exact List.mem_append_right _ hx)
  obtain ⟨t1, t2, t3⟩ := getSz_back hr1 d2
  generalize getSz (decide (fl / 128 = 1)) r1 = B at *
  obtain ⟨sz, r2, eb⟩ := B
  simp only at *
  have hr2 : Rc.Dig r2 := fun x hx => hr1 x (by rw [t1]; exact List.mem_append_right _ hx)
  obtain ⟨u1, u2, u3, u4⟩ := getAll_back _ _ hr2 d3
  generalize getAll (fl % 4 + 1) r2 = G at *
  obtain ⟨fs, r3, eg⟩ := G
  simp only at *
  have hz := zeros_is r3 (fun x hx => by
    by_cases e : x = 0
    · exact e
    · exact absurd ⟨x, hx, e⟩ d4)
  have hfl2 := flags_back (pk := pk) (sz := sz) hb1 c5 u1 s3 t3
  have hroom : (room0 ⟨pk, sz, fs, (size bs : Int)⟩) = told pk ++ told sz ++ (putAll fs).1 := rfl
  have hRR : R = room0 ⟨pk, sz, fs, (size bs : Int)⟩ ++ r3 := by rw [hroom, s1, t1, u3]; simp
  obtain ⟨L, hL⟩ : ∃ L, (room0 ⟨pk, sz, fs, (size bs : Int)⟩).length = L := ⟨_, rfl⟩
  have hlr : L + r3.length = size bs - 6 := by rw [← hRl, hRR, List.length_append, hL]
  have hnd := need_is L
  have hsz : 8 ≤ size bs := by unfold size at c3 ⊢; omega
  have hneed : need L ≤ r3.length ∧ (r3.length - need L) % 4 = 0 := by unfold need at hnd ⊢; omega
  obtain ⟨p, hp⟩ : ∃ p, r3.length = need L + 4 * p := ⟨(r3.length - need L) / 4, by omega⟩
  have hE : ∀ q : Nat, q ≤ p → putE ⟨pk, sz, fs, (size bs : Int)⟩ (q : Int) = 0 := fun q hq => by
    unfold putE
    simp only
    rw [if_neg (by omega), if_neg (by omega), if_neg (by simpa using u2), if_neg (by rw [hL]; omega)]
  have hrm : room ⟨pk, sz, fs, (size bs : Int)⟩ p = R := by
    unfold room
    rw [hL, hRR, hz, hp, List.append_assoc, List.replicate_append_replicate]
  have hbody : body ⟨pk, sz, fs, (size bs : Int)⟩ p = bs.take (size bs - 4) := by
    unfold body
    rw [hrm, hRl]
    simp only
    rw [u1, ← u1, ← hfl2]
    have e0 : (size bs - 6 + 6) / 4 - 1 = bs.getD 0 0 := by omega
    rw [e0, ← hR, ← hfl]
    match bs, hlen2 with
    | a :: b :: r, _ =>
      have hq : ∃ m, size (a :: b :: r) - 4 = m + 2 := ⟨size (a :: b :: r) - 6, by omega⟩
      obtain ⟨m, hm⟩ := hq
      rw [hm]
      rfl
  have hput : putH ⟨pk, sz, fs, (size bs : Int)⟩ (p : Int) = (bs.take (size bs), 0) := by
    rw [putH_0 (hE p (Nat.le_refl _)), Int.toNat_natCast, hbody, ← c4]
    congr 1
    rw [show size bs = size bs - 4 + 4 by omega, List.take_add, show size bs - 4 + 4 - 4 = size bs - 4 by omega]
  refine ⟨p, trivial, by omega, hE 0 (Nat.zero_le _), ?_, hput, by omega, by omega, u4, by omega, d5⟩
  have l0 := putH_len (hE 0 (Nat.zero_le _))
  have := body_len ⟨pk, sz, fs, (size bs : Int)⟩ 0
  have := room_len ⟨pk, sz, fs, (size bs : Int)⟩ 0
  rw [hL] at this
  simp only [Int.natCast_zero, Int.toNat_zero] at l0
  rw [l0]
  omega
/-- Bits turned, none in the first byte: told by the sum. -/
theorem burst_told {h : Hed} {pad : Int} (e : putE h pad = 0) (hs : h.sz ≤ 9223372036854775807) (hk : h.pk ≤ 9223372036854775807) (hl : ∀ f ∈ h.fs, f.ps.length ≤ 9223372036854775807) (hd : ∀ f ∈ h.fs, Rc.Dig f.ps) {l : List Nat} {at_ M : Nat} (ht : Cq.Turned (putH h pad).1 l at_ 32 M) (h0 : l.getD 0 0 = (putH h pad).1.getD 0 0) (hM0 : M = 0 → l = (putH h pad).1) : ((getH l).2 = 3) ↔ M ≠ 0 := by
  obtain ⟨s1, s2, s3⟩ := size_body e []
  rw [List.append_nil] at s1 s2 s3
  have hb := body_is e
  have hln := putH_len e
  constructor
  · intro h3 hM
    have := hM0 hM
    subst this
    have g := get_putH e hs hk hl []
    rw [List.append_nil] at g
    rw [g] at h3
    split at h3
    · simp only at h3
      unfold readF at h3
      repeat' split at h3
      all_goals simp at h3
    · simp at h3
  · intro hM
    have hsz : size l = (putH h pad).1.length := by unfold size at s1 ⊢; rw [h0]; exact s1
    unfold getH
    rw [hsz, h0, ht.len, if_neg (by omega), if_neg s2, if_neg (by omega)]
    by_cases hc : (l.drop ((putH h pad).1.length - 4)).take 4 = crc4 (l.take ((putH h pad).1.length - 4))
    · exfalso
      refine hM (crc_told ht ⟨body h pad.toNat, body_dig e hd, by rw [putH_0 e]⟩ ⟨l.take ((putH h pad).1.length - 4), dig_take ht.byt _, ?_⟩)
      have e4 : (l.drop ((putH h pad).1.length - 4)).take 4 = l.drop ((putH h pad).1.length - 4) := List.take_of_length_le (by rw [List.length_drop, ht.len]; omega)
      rw [← hc, e4, List.take_append_drop]
    · rw [if_pos hc]
end Hd21
end Go.Proofs.YtkncbanodpfccaaDoor
