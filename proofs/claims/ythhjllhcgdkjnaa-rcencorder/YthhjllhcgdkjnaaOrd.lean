/- The order of the bytes of two rows of bits; of no statement by itself. -/
import Derived.Test.YthhjllhcgdkjnaaArgs
import Derived.Laws.Strings
import Derived.Laws.Cover1
namespace Go.Proofs.Ythhjllhcgdkjnaa
open Go.RowKit
set_option linter.unusedVariables false

theorem layE_within {e : Rc.E} {xs : List Int} (h : Rc.Ok e) (hI : In31 xs) (j : Nat) (one : Bool) : Rc.Within e (layE e xs j one) := by
  unfold layE
  split
  · rename_i hj
    have hp := hI.at j hj
    have hb := Rc.bound_in (R := e.R) (p := xs[j].toNat) h.lo (by omega) (by omega)
    exact Rc.cut_within (by omega) _
  · exact Rc.half_within e one
/-- The two parts of a cut. -/
theorem lay_parts {e : Rc.E} {xs : List Int} (h : Rc.Ok e) (hI : In31 xs) (j : Nat) : ∃ z o m, Rc.Within z (layE e xs j false) ∧ Rc.Within o (layE e xs j true) ∧ z.k = m ∧ o.k = m ∧ z.L + z.R ≤ o.L := by
  by_cases hj : j < xs.length
  · have e1 : layE e xs j false = Rc.cut e (e.R / 2048 * xs[j].toNat) false := by unfold layE; rw [dif_pos hj]; rfl
    have e2 : layE e xs j true = Rc.cut e (e.R / 2048 * xs[j].toNat) true := by unfold layE; rw [dif_pos hj]; rfl
    rw [e1, e2]
    exact ⟨_, _, e.k, Rc.widen_within _, Rc.widen_within _, rfl, rfl, Nat.le_refl _⟩
  · have e1 : layE e xs j false = Rc.half e false := by unfold layE; rw [dif_neg hj]
    have e2 : layE e xs j true = Rc.half e true := by unfold layE; rw [dif_neg hj]
    rw [e1, e2]
    exact ⟨_, _, e.k, Rc.widen_within _, Rc.widen_within _, rfl, rfl, Nat.le_refl _⟩
/-- What follows a 0 is below what follows a 1. -/
theorem lay_order {e f g : Rc.E} {xs : List Int} (h : Rc.Ok e) (hI : In31 xs) (j : Nat) (hf : Rc.Within (layE e xs j false) f) (hg : Rc.Within (layE e xs j true) g) (of : Rc.Ok f) (og : Rc.Ok g) : Rc.ltL (Rc.by_ f) (Rc.by_ g) := by
  obtain ⟨z, o, m, h1, h2, h3, h4, h5⟩ := lay_parts h hI j
  exact Rc.by_lt of og (Rc.order (h1.trans hf) (h2.trans hg) h3 h4 rfl h5 (by have := of.lo; omega))

def u8s (l : List Nat) : List UInt8 := l.map fun n => UInt8.ofNat n
theorem u8_lt {a b : Nat} (ha : a < 256) (hb : b < 256) : (UInt8.ofNat a < UInt8.ofNat b) ↔ a < b := by
  rw [UInt8.lt_iff_toNat_lt, UInt8.toNat_ofNat', UInt8.toNat_ofNat']
  simp only [Nat.reducePow]
  rw [Nat.mod_eq_of_lt ha, Nat.mod_eq_of_lt hb]
theorem less_of : ∀ {a b : List Nat}, Rc.Dig a → Rc.Dig b → Rc.ltL a b → Op.bytesLess (u8s a) (u8s b) = true
  | _, [], _, _, h => by cases ‹List Nat› <;> exact h.elim
  | [], _ :: _, _, _, _ => rfl
  | x :: xs, y :: ys, ha, hb, h => by
    have hx : x < 256 := ha x (by simp)
    have hy : y < 256 := hb y (by simp)
    show (decide (UInt8.ofNat x < UInt8.ofNat y) || (UInt8.ofNat x == UInt8.ofNat y && Op.bytesLess (u8s xs) (u8s ys))) = true
    rcases h with h | ⟨h1, h2⟩
    · rw [decide_eq_true ((u8_lt hx hy).2 h)]
      rfl
    · subst h1
      rw [less_of (fun z hz => ha z (by simp [hz])) (fun z hz => hb z (by simp [hz])) h2]
      simp
theorem bytes_toList (b : ByteArray) : b.toList = b.data.toList := ByteArray.toList_eq b
theorem sb_toList (e : Rc.E) : (sb e).toList = u8s (Rc.by_ e) := by
  rw [bytes_toList]
  simp [sb, strOfNums, nums, u8s]
theorem sb_lt {f g : Rc.E} (h : Rc.ltL (Rc.by_ f) (Rc.by_ g)) : Op.bytesLess (sb f).toList (sb g).toList = true := by
  rw [sb_toList, sb_toList]
  exact less_of (Rc.dg_dig _ _) (Rc.dg_dig _ _) h
theorem sb_le {e f : Rc.E} (h : Rc.Within e f) (he : Rc.Ok e) (hf : Rc.Ok f) : (Op.bytesLess (sb e).toList (sb f).toList || (sb e).toList == (sb f).toList) = true := by
  rcases Rc.by_le he hf h.k (Rc.after h) with h1 | h1
  · have : sb e = sb f := by unfold sb; rw [h1]
    rw [this]
    simp
  · rw [sb_lt h1]
    rfl
end Go.Proofs.Ythhjllhcgdkjnaa
