/- The document's heap in memory: its Push; of no statement by itself. -/
import Derived.Test.YtoeimahlielklaaHm
import Derived.Test.YtoeimahlielklaaWb
import Derived.Great.BuildSlice
namespace Go.Proofs.Ytoeimahlielklaa
open Go.RowKit
open Hp16
set_option linter.unusedVariables false
set_option linter.unusedSimpArgs false

/-- Pairs as cells. -/
def prc (p : Pr) : List Value := [.int .i64 p.1, .int .i64 p.2]
def prcs (l : List Pr) : List Value := l.flatMap prc
theorem prcs_append (a b : List Pr) : prcs (a ++ b) = prcs a ++ prcs b := by simp [prcs]
theorem prcs_one (p : Pr) : prcs [p] = prc p := by simp [prcs]
theorem prcs_len (l : List Pr) : (prcs l).length = l.length * 2 := by
  induction l with
  | nil => rfl
  | cons y l ih => simp only [prcs, List.flatMap_cons, List.length_append] at *; rw [ih]; simp [prc]; omega
theorem prcs_at : ∀ (l : List Pr) (k : Nat) (p : Pr), l[k]? = some p → (prcs l)[k * 2]? = some (.int .i64 p.1) ∧ (prcs l)[k * 2 + 1]? = some (.int .i64 p.2)
  | [], k, p, h => by simp at h
  | q :: l, 0, p, h => by
    simp at h
    subst h
    exact ⟨rfl, rfl⟩
  | q :: l, k + 1, p, h => by
    obtain ⟨h1, h2⟩ := prcs_at l k p (by simpa using h)
    have e : prcs (q :: l) = .int .i64 q.1 :: .int .i64 q.2 :: prcs l := rfl
    rw [e]
    exact ⟨by rw [show (k + 1) * 2 = k * 2 + 1 + 1 by omega]; simpa using h1, by rw [show (k + 1) * 2 + 1 = k * 2 + 1 + 1 + 1 by omega]; simpa using h2⟩
theorem prcs_cell (l : List Pr) : ∀ u ∈ prcs l, u.oneCell' = true := fun u hu => by
  unfold prcs at hu
  rw [List.mem_flatMap] at hu
  obtain ⟨y, _, h⟩ := hu
  simp only [prc, List.mem_cons, List.not_mem_nil, or_false] at h
  rcases h with rfl | rfl <;> rfl
theorem prcs_take (l : List Pr) (k : Nat) : (prcs l).take (k * 2) = prcs (l.take k) := by
  induction l generalizing k with
  | nil => simp [prcs]
  | cons q l ih =>
    cases k with
    | zero => simp [prcs]
    | succ k =>
      have e : prcs (q :: l) = .int .i64 q.1 :: .int .i64 q.2 :: prcs l := rfl
      rw [e, show (k + 1) * 2 = k * 2 + 1 + 1 by omega, List.take_succ_cons, List.take_succ_cons, ih, List.take_succ_cons]
      rfl
theorem prcs_drop (l : List Pr) (k : Nat) : (prcs l).drop (k * 2) = prcs (l.drop k) := by
  induction l generalizing k with
  | nil => simp [prcs]
  | cons q l ih =>
    cases k with
    | zero => simp [prcs]
    | succ k =>
      have e : prcs (q :: l) = .int .i64 q.1 :: .int .i64 q.2 :: prcs l := rfl
      rw [e, show (k + 1) * 2 = k * 2 + 1 + 1 by omega, List.drop_succ_cons, List.drop_succ_cons, ih, List.drop_succ_cons]
theorem infoPr : (Try.prog.info? 53).map (fun i => (i.zero, i.size, i.bytes)) = some (some (.agg #[.int .i64 0, .int .i64 0]), 2, 16) := by kernel_rfl
/-- The document's heap at r, its pairs as they were pushed (the slice v). -/
structure Rh (w : World) (B r : Nat) (v : Value) (l : List Pr) : Prop where
  hr : B ≤ r
  blk : w.heap[r]? = some (.cells #[v] 40 (0, 0))
  own : w.ownsRow B 53 2 v l.length (prcs l)
theorem owns_keep {w w' : World} {S : Nat → Prop} {B size : Nat} {e : TypeId} {v : Value} {n : Nat} {xs : List Value} (h : w.ownsRow B e size v n xs) (hc : Chg S w w') (hS : ∀ g, v.ownBlock = some g → ¬ S g) : w'.ownsRow B e size v n xs := by
  refine ⟨h.1, ?_⟩
  rcases h.2 with hn | ⟨g, cap, cur, rfl, hb, hgg, rest⟩
  · exact .inl hn
  · exact .inr ⟨g, cap, cur, rfl, hb, (hc.block g (lt_of_blk hgg) (hS g rfl)).trans hgg, rest⟩
theorem Rh.keep {w w' : World} {S : Nat → Prop} {B r : Nat} {v : Value} {l : List Pr} (h : Rh w B r v l) (hc : Chg S w w') (hS : ∀ z, Foot r v z → ¬ S z) : Rh w' B r v l := ⟨h.hr, blk_keep h.blk hc (hS r (.inl rfl)), owns_keep h.own hc (fun g e => hS g (.inr e))⟩
theorem Rh.new {w w' : World} {B r : Nat} {v : Value} {l : List Pr} (h : Rh w B r v l) (hc : Chg (fun _ => False) w w') : Rh w' B r v l := h.keep hc (fun _ _ f => f)
theorem Rh.lt {w : World} {B r : Nat} {v : Value} {l : List Pr} (h : Rh w B r v l) {z : Nat} (f : Foot r v z) : B ≤ z ∧ z < w.heap.size := by
  rcases f with f | f
  · rw [f]; exact ⟨h.hr, lt_of_blk h.blk⟩
  · exact h.own.lt z f
theorem free00 {w : World} {a : Nat} {x : Value} {t : TypeId} (h : w.heap[a]? = some (.cells #[x] t (0, 0))) : w.frozen? ⟨a, 0, none⟩ = false := by simp [World.frozen?, h]
theorem blk_set00 {w : World} {a : Nat} {x u : Value} {t : TypeId} (h : w.heap[a]? = some (.cells #[x] t (0, 0))) : (w.setCell ⟨a, 0, none⟩ u).heap[a]? = some (.cells #[u] t (0, 0)) := by
  have h2 : w.heap[a]? = some (.cells [x].toArray t (0, 0)) := h
  exact blk_setk h2 0 u
theorem formP {w : World} {B : Nat} {t : TypeId} {size : Nat} {lv : Value} {n : Nat} {xs : List Value} (h : w.ownsRow B t size lv n xs) : ∃ a c, lv = .slice a n c := by
  rcases h.2 with ⟨rfl, rfl⟩ | ⟨g, cap, cur, rfl, _⟩
  · exact ⟨none, 0, rfl⟩
  · exact ⟨_, _, rfl⟩
theorem from_pr (w : World) (p : Pr) (t : TypeId) : From (w.alloc (.cells #[.int .i64 p.1, .int .i64 p.2] t)) (some ⟨w.heap.size, 0, none⟩) 1 1 2 (prcs [p]) := by
  refine ⟨by rw [prcs_len]; rfl, .inr ⟨_, rfl, fun j u hu => ?_⟩⟩
  have hadd : (⟨w.heap.size, 0, none⟩ : Addr).add j = ⟨w.heap.size, j, none⟩ := by unfold Addr.add; split <;> simp_all
  rw [prcs_one] at hu
  rw [hadd, World.cell?, heap_alloc_new]
  simpa [prc] using hu
set_option maxHeartbeats 2000000 in
theorem rhpush_any (B r : Nat) (v : Value) (l : List Pr) (x y : Int) (w : World) (h : Rh w B r v l) (hB : B ≤ w.heap.size) (hl : l.length < 8796093022208) : Calls Try.prog 12 #[.pointer (some ⟨r, 0, none⟩), .int .i64 x, .int .i64 y] w fun e w' => e = .returned (.tuple #[]) ∧ ∃ v', Rh w' B r v' (l ++ [(x, y)]) ∧ Chg (Foot r v) w w' ∧ Moved w v v' := by
  obtain ⟨iu, hiu, hu0, hu1, hu2⟩ := info_parts infoPr
  obtain ⟨ad0, c0, hv⟩ := formP h.own
  have k0 := cell00 h.blk
  have HH : Hid (Rh w B r v l) := h
  have cA := chg_one w (.cells #[.int .i64 x, .int .i64 y] 53)
  have hown := (h.new cA).own
  have hsrc := from_pr w (x, y) 53
  have hone := prcs_cell [(x, y)]
  have HCA : Hid (Chg (fun _ => False) w (w.alloc (.cells #[.int .i64 x, .int .i64 y] 53))) := cA
  have HRA : Hid (Rh (w.alloc (.cells #[.int .i64 x, .int .i64 y] 53)) B r v l) := h.new cA
  have hBA : B ≤ (w.alloc (.cells #[.int .i64 x, .int .i64 y] 53)).heap.size := Nat.le_trans hB cA.size
  rw [hv] at k0 hown
  generalize hLL : l.length = L at *
  clear h cA
  go_enter Try.func12, Try.ntmps12
  go_wp2_with (at_builtin; refine wpList_append_moved rfl _ _ 38 rfl B 53 iu (.agg #[.int .i64 0, .int .i64 0]) 2 16 Try.underlying38 hiu hu0 hu1 hu2 rfl (by decide) _ L (prcs l) rfl (some ⟨w.heap.size, 0, none⟩) 1 1 rfl (prcs [(x, y)]) hown hsrc hone (by unfold maxLen; omega) (by omega) hBA ?_)
  intro v9 w9 ho9 hg9 hm9
  obtain ⟨a9, d9, hv9⟩ := formP ho9
  subst hv9
  rw [← hv] at hg9 hm9
  have hne : v.ownBlock ≠ some r := fun e => by
    obtain ⟨cur, hcur⟩ := owns_blk HH.out.own e
    exact ty_ne hcur HH.out.blk (by decide)
  have c9 : Chg (fun z => v.ownBlock = some z) w w9 := (HCA.out.mono (fun z f => f.elim)).grown hg9 (fun z e => .inl e)
  have b9 := blk_keep HH.out.blk c9 (fun f => hne f)
  have k9 := cell00 b9
  have f9 := free00 b9
  have HB9 : Hid ((w9.setCell ⟨r, 0, none⟩ (.slice a9 (L + 1) d9)).heap[r]? = some (.cells #[.slice a9 (L + 1) d9] 40 (0, 0))) := blk_set00 b9
  have cS : Chg (fun z => z = r) w9 (w9.setCell ⟨r, 0, none⟩ (.slice a9 (L + 1) d9)) := Chg.setCell (S := fun z => z = r) (Chg.refl _ w9) (p := ⟨r, 0, none⟩) (.inl rfl) _
  have HO9 : Hid ((w9.setCell ⟨r, 0, none⟩ (.slice a9 (L + 1) d9)).ownsRow B 53 2 (.slice a9 (L + 1) d9) (l ++ [(x, y)]).length (prcs (l ++ [(x, y)]))) := by
    rw [prcs_append, List.length_append, hLL]
    refine owns_keep ho9 cS (fun g e f => ?_)
    rw [f] at e
    obtain ⟨cur, hcur⟩ := owns_blk ho9 e
    exact ty_ne hcur b9 (by decide)
  have HC9 : Hid (Chg (Foot r v) w (w9.setCell ⟨r, 0, none⟩ (.slice a9 (L + 1) d9))) := (c9.mono (fun z f => .inl (.inr f))).trans cS (fun z f => .inl (.inl f))
  have HM9 : Hid (Moved w v (.slice a9 (L + 1) d9)) := fun g e => by
    rcases hm9 g e with k | k
    · exact .inl k
    · exact .inr (Nat.le_trans HCA.out.size k)
  clear ho9 hg9 hm9 c9 cS k0 hown hsrc hone b9
  go_wp2
  go_end0
  exact ⟨rfl, _, ⟨HH.out.hr, HB9.out, HO9.out⟩, HC9.out, HM9.out⟩
end Go.Proofs.Ytoeimahlielklaa
