/- The program's filter in memory: its distance, its way, a ring of 256 bytes; the ring's mathematics; of no statement by itself. -/
import Derived.Test.YtefplppgkoanbaaDs
import Derived.Deep.WholeRow
namespace Go.Proofs.Ytefplppgkoanbaa
open Go.RowKit
set_option linter.unusedVariables false
set_option linter.unusedSimpArgs false
/-- The plain bytes: what came, or on the way back what was told. -/
def plainD (back : Bool) (d : Nat) (all : List Nat) : List Nat := if back then De19.cd true d all else all
theorem plain_len (back : Bool) (d : Nat) (all : List Nat) : (plainD back d all).length = all.length := by
  unfold plainD; split
  · exact De19.cd_len _ _ _
  · rfl
/-- The ring R behind the plain bytes P. -/
def RingD (R P : List Nat) : Prop := R.length = 256 ∧ De19.By R ∧ ∀ k, 1 ≤ k → k ≤ 256 → R.getD ((P.length % 256 + 256 - k) % 256) 0 = De19.at_ P P.length k
theorem ringD_new : RingD (List.replicate 256 0) [] := by
  refine ⟨List.length_replicate, fun x hx => by rw [(List.mem_replicate.1 hx).2]; decide, fun k h1 h2 => ?_⟩
  have e : De19.at_ [] ([] : List Nat).length k = 0 := by unfold De19.at_; rw [if_pos (by simp; omega)]
  rw [e, List.getD_eq_getElem?_getD, List.getElem?_replicate]
  split <;> rfl
theorem ringD_put {R P : List Nat} (h : RingD R P) (x : Nat) (hx : x < 256) : RingD (R.set (P.length % 256) x) (P ++ [x]) := by
  obtain ⟨hl, hb, hr⟩ := h
  have hm : P.length % 256 < 256 := Nat.mod_lt _ (by decide)
  refine ⟨by rw [List.length_set]; exact hl, fun y hy => ?_, fun k h1 h2 => ?_⟩
  · rcases List.mem_or_eq_of_mem_set hy with e | e
    · exact hb y e
    · omega
  · rw [List.length_append, List.length_singleton]
    by_cases hk : k = 1
    · subst hk
      have e : ((P.length + 1) % 256 + 256 - 1) % 256 = P.length % 256 := by omega
      rw [e, List.getD_eq_getElem?_getD, List.getElem?_set_self (by omega)]
      unfold De19.at_
      rw [if_neg (by omega), Nat.add_sub_cancel, List.getD_eq_getElem?_getD, List.getElem?_append_right (Nat.le_refl _)]
      simp
    · have e : ((P.length + 1) % 256 + 256 - k) % 256 = (P.length % 256 + 256 - (k - 1)) % 256 := by omega
      have hne : P.length % 256 ≠ (P.length % 256 + 256 - (k - 1)) % 256 := by omega
      rw [e, List.getD_eq_getElem?_getD, List.getElem?_set_ne hne, ← List.getD_eq_getElem?_getD, hr (k - 1) (by omega) (by omega)]
      unfold De19.at_
      by_cases hlt : P.length + 1 < k
      · rw [if_pos (by omega), if_pos (by omega)]
      · rw [if_neg (by omega), if_neg (by omega)]
        have e2 : P.length + 1 - k = P.length - (k - 1) := by omega
        rw [e2, List.getD_eq_getElem?_getD, List.getD_eq_getElem?_getD, List.getElem?_append_left (by omega)]
/-- The cells of a filter. -/
def flD (d : Int) (back : Bool) (R : List Nat) (nx : Int) : List Value := .int .i64 d :: .bool back :: (ins .u8 (nums R) ++ [.int .i64 nx])
theorem flD_set (d : Int) (back : Bool) (R : List Nat) (nx : Int) (j x : Nat) (hj : j < R.length) : (flD d back R nx).set (2 + j) (.int .u8 (x : Int)) = flD d back (R.set j x) nx := by
  unfold flD
  rw [show 2 + j = j + 1 + 1 by omega, List.set_cons_succ, List.set_cons_succ, List.set_append_left _ _ (by rw [ins_len, nums_len]; exact hj), ins_set]
  simp [nums, List.map_set]
theorem flD_nx (d : Int) (back : Bool) (R : List Nat) (nx ny : Int) (h : R.length = 256) : (flD d back R nx).set 258 (.int .i64 ny) = flD d back R ny := by
  unfold flD
  rw [List.set_cons_succ, List.set_cons_succ, List.set_append_right _ _ (by rw [ins_len, nums_len, h]; decide), ins_len, nums_len, h]
  rfl
theorem flD_at (d : Int) (back : Bool) (R : List Nat) (nx : Int) (j : Nat) (hj : j < R.length) : (flD d back R nx)[2 + j]? = some (.int .u8 ((R.getD j 0 : Nat) : Int)) := by
  unfold flD
  rw [show 2 + j = j + 1 + 1 by omega, List.getElem?_cons_succ, List.getElem?_cons_succ, List.getElem?_append_left (by rw [ins_len, nums_len]; exact hj)]
  simp only [ins, nums, List.getElem?_map, List.getElem?_eq_getElem hj, List.getD_eq_getElem?_getD]
  rfl
theorem flD_last (d : Int) (back : Bool) (R : List Nat) (nx : Int) (h : R.length = 256) : (flD d back R nx)[258]? = some (.int .i64 nx) := by
  unfold flD
  rw [List.getElem?_cons_succ, List.getElem?_cons_succ, List.getElem?_append_right (by rw [ins_len, nums_len, h]; decide), ins_len, nums_len, h]
  rfl
theorem cell_l {w : World} {a : Nat} {l : List Value} {t : TypeId} (h : w.heap[a]? = some (.cells l.toArray t (0, 0))) {k : Nat} {v : Value} (hv : l[k]? = some v) (h1 : v.oneCell' = true) : w.cell? ⟨a, k, none⟩ = some v := by
  simp [World.cell?, h]
  exact hv
theorem free_l {w : World} {a : Nat} {l : List Value} {t : TypeId} (h : w.heap[a]? = some (.cells l.toArray t (0, 0))) (k : Nat) : w.frozen? ⟨a, k, none⟩ = false := by simp [World.frozen?, h]
/-- The landed filter. -/
structure FiL (w : World) (B a : Nat) (F : Nat → Prop) (d : Nat) (back : Bool) (all : List Nat) : Prop where
  lo : B ≤ a
  foot : F = fun z => z = a
  good : goodD (d : Int)
  ring : ∃ R, RingD R (plainD back d all) ∧ w.heap[a]? = some (.cells (flD d back R ((all.length % 256 : Nat) : Int)).toArray 60 (0, 0))
theorem FiL.keep {w w' : World} {S F : Nat → Prop} {B a d : Nat} {back : Bool} {all : List Nat} (h : FiL w B a F d back all) (hc : Chg S w w') (hS : ∀ z, F z → ¬ S z) : FiL w' B a F d back all := by
  obtain ⟨R, h1, h2⟩ := h.ring
  exact ⟨h.lo, h.foot, h.good, R, h1, blk_keep h2 hc (hS a (by rw [h.foot]))⟩
theorem FiL.lt {w : World} {F : Nat → Prop} {B a d : Nat} {back : Bool} {all : List Nat} (h : FiL w B a F d back all) : ∀ z, F z → B ≤ z ∧ z < w.heap.size := fun z hz => by
  rw [h.foot] at hz
  obtain ⟨R, h1, h2⟩ := h.ring
  exact ⟨hz ▸ h.lo, hz ▸ lt_of_blk h2⟩
theorem FiL.down {w : World} {F : Nat → Prop} {B B' a d : Nat} {back : Bool} {all : List Nat} (h : FiL w B a F d back all) (hB : B' ≤ B) : FiL w B' a F d back all := ⟨Nat.le_trans hB h.lo, h.foot, h.good, h.ring⟩
theorem built_f (d : Int) (back : Bool) : Try.prog.built 60 [(0, .int .i64 d), (1, .bool back)] = some (flD d back (List.replicate 256 0) 0).toArray := by kernel_rfl
theorem piece_snoc' (back : Bool) (d : Nat) (all b : List Nat) (x : Nat) : De19.piece back d all (b ++ [x]) = De19.piece back d all b ++ [De19.one back x (De19.at_ (plainD back d (all ++ b)) (plainD back d (all ++ b)).length d)] := by
  rw [De19.piece_snoc, plain_len, List.length_append]
  unfold plainD
  cases back <;> rfl
/-- The plain byte behind a step. -/
def pbD (back : Bool) (x a : Nat) : Nat := if back then De19.one true x a else x
theorem plain_snoc (back : Bool) (d : Nat) (all : List Nat) (x : Nat) : plainD back d (all ++ [x]) = plainD back d all ++ [pbD back x (De19.at_ (plainD back d all) (plainD back d all).length d)] := by
  cases back
  · rfl
  · unfold plainD pbD
    simp only [if_true]
    rw [De19.cd_snoc, De19.cd_len]
    rfl
end Go.Proofs.Ytefplppgkoanbaa
