/- How many bytes an index has, and how many of them end a number: plain mathematics; of no statement by themselves. -/
import Derived.Test.YtehfcfpbjenmjaaDoorIxm
namespace Go.Proofs.YtehfcfpbjenmjaaDoor
open Go.RowKit
set_option linter.unusedVariables false
set_option linter.unusedSimpArgs false
namespace Ix23
/-- How many bytes are below 128. -/
def cnt (bs : List Nat) : Nat := (bs.filter (fun x => decide (x < 128))).length
theorem cnt_app (a b : List Nat) : cnt (a ++ b) = cnt a + cnt b := by unfold cnt; rw [List.filter_append, List.length_append]
theorem cnt_le (a : List Nat) : cnt a ≤ a.length := List.length_filter_le _ _
theorem cnt_last : ∀ (l : List Nat), (∀ (j x : Nat), j + 1 < l.length → l[j]? = some x → 128 ≤ x) → cnt l ≤ 1
  | [], _ => by simp [cnt]
  | [x], _ => cnt_le [x]
  | x :: y :: r, h => by
    have h0 := h 0 x (by simp) rfl
    have ih := cnt_last (y :: r) (fun j z hj hz => h (j + 1) z (by simp at hj ⊢; omega) (by simpa using hz))
    have e : cnt (x :: y :: r) = cnt (y :: r) := by unfold cnt; rw [List.filter_cons_of_neg (by simp; omega)]
    rw [e]
    exact ih
theorem cnt_vbn (v : Nat) : cnt (vbn v) ≤ 1 := cnt_last _ (fun j x hj hx => by
  have hl := vbn_len v
  rw [hl] at hj
  unfold vbn Vint.vb Vint.putl at hx
  rw [List.getElem?_map, List.getElem?_map, List.getElem?_range (by omega)] at hx
  simp only [Option.map_some, Option.some.injEq] at hx
  rw [if_pos hj] at hx
  have := Vint.dg_bd (v : Int) j
  omega)
theorem cnt_recs : ∀ l : List Rec, cnt (recs l) ≤ 2 * l.length
  | [] => by simp [cnt, recs]
  | r :: l => by
    rw [recs, one, cnt_app, cnt_app, List.length_cons]
    have h1 := cnt_vbn r.u.toNat
    have h2 := cnt_vbn r.s.toNat
    have h3 := cnt_recs l
    omega
theorem cnt_putI {l : List Rec} (h : rightB 0 0 l = true) : cnt (putI l).1 ≤ 2 * l.length + 9 := by
  rw [putI_0 h]
  simp only
  have h1 := cnt_le (crc4 (body l))
  rw [crc4_len] at h1
  have h2 := cnt_le (List.replicate (zpad (core l).length) 0)
  rw [List.length_replicate] at h2
  have h3 := (zpad_is (core l).length).1
  have h4 := cnt_recs l
  have h5 := cnt_vbn l.length
  have e : cnt (core l) = cnt [0] + (cnt (vbn l.length) + cnt (recs l)) := by
    have e0 : core l = [0] ++ (vbn l.length ++ recs l) := by unfold core; rw [List.singleton_append]
    rw [e0, cnt_app, cnt_app]
  have h6 := cnt_le [0]
  rw [cnt_app, show cnt (body l) = cnt (core l) + cnt (List.replicate (zpad (core l).length) 0) from cnt_app _ _, e]
  simp only [List.length_singleton] at h6
  omega
set_option maxRecDepth 100000 in
theorem vbn_room (v : Nat) (h : v ≤ 9223372036854775807) : 2097152 * ((vbn v).length : Int) ≤ 6291456 + (v : Int) := by
  rw [vbn_len]
  obtain ⟨n, hn⟩ : ∃ n, Vint.sz (v : Int) = n := ⟨_, rfl⟩
  have k := Vint.sz_is hn
  rw [hn]
  obtain ⟨k1, k2, -, k4⟩ := k
  by_cases h4 : n ≤ 3
  · omega
  · have k5 := k4 (by omega)
    have hc : n = 4 ∨ n = 5 ∨ n = 6 ∨ n = 7 ∨ n = 8 ∨ n = 9 := by omega
    clear k4 k1 k2 h4 hn
    rcases hc with rfl | rfl | rfl | rfl | rfl | rfl <;> simp only [Vint.bd, Nat.reduceSub] at k5 <;> omega
theorem recs_room : ∀ l : List Rec, (∀ r ∈ l, 5 ≤ r.u ∧ r.u ≤ 9223372036854775804 ∧ 0 ≤ r.s ∧ r.s ≤ 9223372036854775807) → 2097152 * ((recs l).length : Int) ≤ 12582912 * (l.length : Int) + bsum l + ssum l
  | [], _ => by simp [recs, bsum, ssum]
  | r :: l, h => by
    have h0 := h r (by simp)
    have ih := recs_room l (fun x hx => h x (by simp [hx]))
    have h1 := vbn_room r.u.toNat (by omega)
    have h2 := vbn_room r.s.toNat (by omega)
    have h3 := (pad_is r.u).1
    rw [Int.toNat_of_nonneg (by omega)] at h1 h2
    rw [recs, one, bsum, ssum]
    simp only [List.length_append, List.length_cons, Int.natCast_add]
    omega
/-- An index is no longer than this. -/
theorem putI_room {l : List Rec} (hn : l.length ≤ 8796093022208) : (putI l).1.length ≤ 61572651155500 := by
  by_cases h : rightB 0 0 l = true
  · obtain ⟨q1, q2, q3, q4, q5, q6⟩ := right_is h (by omega) (by omega)
    have h1 := recs_room l (fun r hr => by have := q1 r hr; omega)
    have h2 := putI_len h
    have h3 := body_len l
    have h4 := core_len l
    have h5 := vbn_le l.length
    have h6 := zpad_is (core l).length
    omega
  · rw [putI_7 h]
    exact Nat.zero_le _
/-- But for a few bytes in the middle nothing is turned. -/
theorem cnt_mid {p l : List Nat} {a : Nat} (hl : l.length = p.length) (h : ∀ q, q < a ∨ a + 5 ≤ q → l[q]? = p[q]?) : cnt l ≤ cnt p + 5 := by
  have e1 : l.take a = p.take a := List.ext_getElem? (fun q => by
    rw [List.getElem?_take, List.getElem?_take]
    by_cases hq : q < a
    · rw [if_pos hq, if_pos hq, h q (.inl hq)]
    · rw [if_neg hq, if_neg hq])
  have e2 : l.drop (a + 5) = p.drop (a + 5) := List.ext_getElem? (fun q => by
    rw [List.getElem?_drop, List.getElem?_drop, h (a + 5 + q) (.inr (by omega))])
  have s : ∀ m : List Nat, cnt m = cnt (m.take a) + (cnt ((m.drop a).take 5) + cnt (m.drop (a + 5))) := fun m => by
    rw [← cnt_app, ← List.drop_drop, List.take_append_drop, ← cnt_app, List.take_append_drop]
  have h1 := cnt_le ((l.drop a).take 5)
  rw [List.length_take] at h1
  rw [s l, s p, e1, e2]
  omega
end Ix23
end Go.Proofs.YtehfcfpbjenmjaaDoor
