/- The program's heap in memory: which of two pairs is less; rising; of no statement by itself. -/
import Derived.Test.YtoeimahlielklaaHb
import Derived.Test.YtoeimahlielklaaHq
import Derived.Test.YtoeimahlielklaaLastM
import Derived.Laws.EntriesVeiled
namespace Go.Proofs.Ytoeimahlielklaa
open Go.RowKit
open Hp16
set_option linter.unusedVariables false
set_option linter.unusedSimpArgs false
set_option maxHeartbeats 2000000 in
theorem cheaper_any (a b : Pr) (w : World) : Calls Try.prog 9 #[.agg #[.int .i64 a.1, .int .i64 a.2], .agg #[.int .i64 b.1, .int .i64 b.2]] w fun e w' => e = .returned (.bool (ltb a b)) ∧ Chg (fun _ => False) w w' := by
  obtain ⟨a1, a2⟩ := a
  obtain ⟨b1, b2⟩ := b
  have hl : ltb (a1, a2) (b1, b2) = if a1 = b1 then decide (a2 < b2) else decide (a1 < b1) := by
    unfold ltb
    by_cases h : a1 = b1
    · subst h; simp
    · simp [h]
  rw [hl]
  go_enter Try.func9, Try.ntmps9
  by_cases h : a1 = b1
  · subst h
    have e1 : (a1 != a1) = false := by simp
    go_wp2
    go_ret
    exact ⟨by simp, ((Chg.refl _ w).alloc _).alloc _⟩
  · have e1 : (a1 != b1) = true := by simp [h]
    go_wp2
    go_ret
    exact ⟨by simp [h], ((Chg.refl _ w).alloc _).alloc _⟩
/-- The function that a heap compares by. -/
def chF : Value := .func (.func 9) #[] #[]
/-- The program's heap at a: what it compares by, its list v of the pairs l, as they lie. -/
structure Hl (w : World) (B a : Nat) (ff v : Value) (l : List Pr) : Prop where
  ha : B ≤ a
  blk : w.heap[a]? = some (.cells #[ff, v] 29 (0, 0))
  own : w.ownsRow B 47 2 v l.length (prcs l)
theorem Hl.keep {w w' : World} {S : Nat → Prop} {B a : Nat} {ff v : Value} {l : List Pr} (h : Hl w B a ff v l) (hc : Chg S w w') (hS : ∀ z, Foot a v z → ¬ S z) : Hl w' B a ff v l := ⟨h.ha, blk_keep h.blk hc (hS a (.inl rfl)), owns_keep h.own hc (fun g e => hS g (.inr e))⟩
theorem Hl.new {w w' : World} {B a : Nat} {ff v : Value} {l : List Pr} (h : Hl w B a ff v l) (hc : Chg (fun _ => False) w w') : Hl w' B a ff v l := h.keep hc (fun _ _ f => f)
theorem Hl.lt {w : World} {B a : Nat} {ff v : Value} {l : List Pr} (h : Hl w B a ff v l) {z : Nat} (f : Foot a v z) : B ≤ z ∧ z < w.heap.size := by
  rcases f with f | f
  · rw [f]; exact ⟨h.ha, lt_of_blk h.blk⟩
  · exact h.own.lt z f
theorem Hl.ne {w : World} {B a : Nat} {ff v : Value} {l : List Pr} (h : Hl w B a ff v l) : v.ownBlock ≠ some a := fun e => by
  obtain ⟨cur, hc⟩ := owns_blk h.own e
  exact ty_ne h.blk hc (by decide)
theorem prcs_set (l : List Pr) (k : Nat) (p : Pr) : ((prcs l).set (k * 2) (.int .i64 p.1)).set (k * 2 + 1) (.int .i64 p.2) = prcs (l.set k p) := by
  induction l generalizing k with
  | nil => simp [prcs]
  | cons q l ih =>
    have e : prcs (q :: l) = .int .i64 q.1 :: .int .i64 q.2 :: prcs l := rfl
    cases k with
    | zero => rw [e]; rfl
    | succ k =>
      rw [e, show (k + 1) * 2 = k * 2 + 1 + 1 by omega, List.set_cons_succ, List.set_cons_succ, List.set_cons_succ, List.set_cons_succ, ih]
      rfl
/-- One cell of an own row of pairs is written. -/
theorem own_set2 {w : World} {B : Nat} {e : TypeId} {g n cap : Nat} {xs : List Value} (h : w.ownsRow B e 2 (.slice (some ⟨g, 0, none⟩) n cap) n xs) (j : Nat) (u : Value) :
    (w.setCell ⟨g, j, none⟩ u).ownsRow B e 2 (.slice (some ⟨g, 0, none⟩) n cap) n (xs.set j u) := by
  refine ⟨by rw [List.length_set]; exact h.1, ?_⟩
  rcases h.2 with ⟨e0, _⟩ | ⟨g', cap', cur, e0, hb, hg, hc, hm, hs, ht⟩
  · cases e0
  · simp only [Value.slice.injEq, Option.some.injEq, Addr.mk.injEq, true_and, and_true] at e0
    obtain ⟨rfl, rfl⟩ := e0
    have hg2 : w.heap[g]? = some (.cells cur.toList.toArray e (0, 0)) := by rw [hg]
    refine .inr ⟨g, cap, _, rfl, hb, blk_setk hg2 j u, hc, hm, by simpa using hs, ?_⟩
    rw [← ht]
    simp [List.take_set]
theorem own_free {w : World} {B : Nat} {e : TypeId} {g n cap : Nat} {xs : List Value} (h : w.ownsRow B e 2 (.slice (some ⟨g, 0, none⟩) n cap) n xs) (j : Nat) : w.frozen? ⟨g, j, none⟩ = false := by
  rcases h.2 with ⟨e0, _⟩ | ⟨g', cap', cur, e0, hb, hg, _⟩
  · cases e0
  · simp only [Value.slice.injEq, Option.some.injEq, Addr.mk.injEq, true_and, and_true] at e0
    obtain ⟨rfl, rfl⟩ := e0
    simp [World.frozen?, hg]
/-- A pair is put into an own row. -/
theorem put2 {w : World} {B : Nat} {e : TypeId} {g n c : Nat} {l : List Pr} (h : w.ownsRow B e 2 (.slice (some ⟨g, 0, none⟩) n c) n (prcs l)) (hl : l.length = n) (k : Nat) (hk : k < n) (p : Pr) :
    (w.cell? ⟨g, k * 2, none⟩ = some (.int .i64 (nth l k).1) ∧ w.cell? ⟨g, k * 2 + 1, none⟩ = some (.int .i64 (nth l k).2)) ∧ w.frozen? ⟨g, k * 2, none⟩ = false
    ∧ (w.setCell ⟨g, k * 2, none⟩ (.int .i64 p.1)).cell? ⟨g, k * 2 + 1, none⟩ = some (.int .i64 (nth l k).2) ∧ (w.setCell ⟨g, k * 2, none⟩ (.int .i64 p.1)).frozen? ⟨g, k * 2 + 1, none⟩ = false
    ∧ ((w.setCell ⟨g, k * 2, none⟩ (.int .i64 p.1)).setCell ⟨g, k * 2 + 1, none⟩ (.int .i64 p.2)).ownsRow B e 2 (.slice (some ⟨g, 0, none⟩) n c) n (prcs (l.set k p))
    ∧ Chg (fun z => z = g) w ((w.setCell ⟨g, k * 2, none⟩ (.int .i64 p.1)).setCell ⟨g, k * 2 + 1, none⟩ (.int .i64 p.2)) := by
  obtain ⟨h1, h2⟩ := prcs_at l k (nth l k) (nth_at (by omega))
  have e1 := h.cells (g := g) rfl _ _ h1
  have e2 := h.cells (g := g) rfl _ _ h2
  rw [addk, Nat.zero_add] at e1 e2
  have o1 := own_set2 h (k * 2) (.int .i64 p.1)
  have h3 : ((prcs l).set (k * 2) (.int .i64 p.1))[k * 2 + 1]? = some (.int .i64 (nth l k).2) := by rw [List.getElem?_set_ne (by omega)]; exact h2
  have e3 := o1.cells (g := g) rfl _ _ h3
  rw [addk, Nat.zero_add] at e3
  have o2 := own_set2 o1 (k * 2 + 1) (.int .i64 p.2)
  rw [prcs_set] at o2
  exact ⟨⟨e1, e2⟩, own_free h _, e3, own_free o1 _, o2, ((Chg.refl (fun z => z = g) w).setCell (p := ⟨g, k * 2, none⟩) (.inl rfl) _).setCell (p := ⟨g, k * 2 + 1, none⟩) (.inl rfl) _⟩
def SwJ (W0 W1 : World) (q : Nat) (w : World) : Prop := w = if q = 0 then W0 else W1
theorem half_pred (j : Nat) : ((j : Int) - 1).tdiv 2 = (((j - 1) / 2 : Nat) : Int) := by
  by_cases h : j = 0
  · subst h; rfl
  · rw [Int.tdiv_eq_ediv_of_nonneg (by omega)]; omega
set_option maxHeartbeats 8000000 in
set_option maxRecDepth 100000 in
theorem rise_any (B a i g n c : Nat) (l : List Pr) (w : World) (h : Hl w B a chF (.slice (some ⟨g, 0, none⟩) n c) l) (hl : l.length = n) (hi : i < n) (hn : n ≤ 8796093022208) (hup : Up l i) : Calls Try.prog 14 #[.pointer (some ⟨a, 0, none⟩), .int .i64 (i : Int)] w fun e w' => e = .returned (.tuple #[]) ∧ ∃ l', Hl w' B a chF (.slice (some ⟨g, 0, none⟩) n c) l' ∧ l'.Perm l ∧ Tre l' ∧ Chg (fun z => z = g) w w' := by
  have hq0 := half_pred i
  have HL : Hid (l.length = n ∧ Up l i ∧ Hl w B a chF (.slice (some ⟨g, 0, none⟩) n c) l) := ⟨hl, hup, h⟩
  have hii : (i : Int) < 8796093022208 := by omega
  clear hl hup h
  go_enter Try.func14, Try.ntmps14
  go_wp2_with fail
  go_loopw [1, 4] (fun v1 v4 wr => ∃ (j : Nat) (l2 : List Pr), j < n ∧ v1 = .int .i64 (j : Int) ∧ v4 = .int .i64 (((j - 1) / 2 : Nat) : Int) ∧ Hid (l2.length = n ∧ Up l2 j ∧ l2.Perm l ∧ Hl wr B a chF (.slice (some ⟨g, 0, none⟩) n c) l2 ∧ Chg (fun z => z = g) w wr)) (fun v1 _ _ => (intOf v1).toNat)
  case atStart => exact ⟨i, l, hi, rfl, rfl, HL.out.1, HL.out.2.1, List.Perm.refl _, HL.out.2.2, Chg.refl _ _⟩
  case round =>
    obtain ⟨j, l2, hj, rfl, rfl, HI⟩ := hrel
    have hji : (j : Int) < 8796093022208 := by omega
    by_cases hj0 : j = 0
    · subst hj0
      have HE : Hid (∀ w7, Chg (fun _ => False) wr w7 → ∃ l', Hl w7 B a chF (.slice (some ⟨g, 0, none⟩) n c) l' ∧ l'.Perm l ∧ Tre l' ∧ Chg (fun z => z = g) w w7) := fun w7 h7 => ⟨l2, HI.out.2.2.2.1.new h7, HI.out.2.2.1, up_zero HI.out.2.1, HI.out.2.2.2.2.trans h7 (fun _ f => f.elim)⟩
      clear HI
      go_upto_region 1 with fail
      refine wp_region_last (mk := fun u => #[_, _, _, _, _, _, _, _, u 8, u 9, u 10, u 11, u 12, u 13, u 14, u 15, u 16, u 17, u 18, u 19, u 20, u 21, u 22, u 23, u 24, u 25, u 26, u 27, u 28, u 29, _, _, _, _, _, _, _, _, _, _, _, _, _, _, _, _, _, _, _, _, _, _, _, _, _, _, _, _, _, _, _]) (F := fun slot vv ww => (look [(8, .val (.int .i64 (0 : Int))), (9, .val (.bool false)), (10, .val (.bool false)), (11, .val undef), (12, .val undef), (13, .val undef), (14, .val undef), (15, .val undef), (16, .val undef), (17, .val undef), (18, .val undef), (19, .val undef), (20, .val undef), (21, .val undef), (22, .val undef), (23, .val undef), (24, .val undef), (25, .val undef), (26, .val undef), (27, .val undef), (28, .val undef), (29, .val undef)] slot).holds vv ww) (fun slot => match slot with | 8 => u8 | 9 => u9 | 10 => u10 | 11 => u11 | 12 => u12 | 13 => u13 | 14 => u14 | 15 => u15 | 16 => u16 | 17 => u17 | 18 => u18 | 19 => u19 | 20 => u20 | 21 => u21 | 22 => u22 | 23 => u23 | 24 => u24 | 25 => u25 | 26 => u26 | 27 => u27 | 28 => u28 | 29 => u29 | 30 => u30 | _ => undef) rfl (by kernel_rfl) 22 _ rfl rfl (by kernel_rfl) ?_ (fun _ v w w' hc h => Fact.stays _ v w w' hc h) ?_ ?_
      · repeat (refine ⟨⟨_, rfl, fun _ _ => rfl⟩, ?_⟩)
        exact trivial
      · refine ⟨?_, ?_, ?_, ?_, ?_, ?_, ?_, ?_, ?_, ?_, ?_, ?_, ?_, ?_, ?_, ?_, ?_, ?_, ?_, ?_, ?_, ?_, trivial⟩
        · intro u w_ hc hd K hK -- 8
          clear hd
          go_simp
          exact hK.out (.int .i64 (0 : Int)) w_ (Chg.refl _ _) rfl
        · intro u w_ hc hd K hK -- 9
          have h8 : (Fact.val (.int .i64 (0 : Int))).holds (u 8) w_ := hd.get 0 (by kernel_rfl)
          simp only [Fact.holds] at h8
          clear hd
          simp only [h8] at hK
          go_simp
          exact hK.out _ w_ (Chg.refl _ _) rfl
        · intro u w_ hc hd K hK -- 10
          have h9 : (Fact.val (.bool false)).holds (u 9) w_ := hd.get 1 (by kernel_rfl)
          simp only [Fact.holds] at h9
          clear hd
          simp only [h9] at hK
          go_simp
          exact hK.out (.bool false) w_ (Chg.refl _ _) rfl
        · intro u w_ hc hd K hK -- 11
          have h10 : (Fact.val (.bool false)).holds (u 10) w_ := hd.get 2 (by kernel_rfl)
          simp only [Fact.holds] at h10
          clear hd
          simp only [h10] at hK
          go_simp
          exact hK.out undef w_ (Chg.refl _ _) rfl
        · intro u w_ hc hd K hK -- 12
          have h11 : (Fact.val undef).holds (u 11) w_ := hd.get 3 (by kernel_rfl)
          simp only [Fact.holds] at h11
          have h10 : (Fact.val (.bool false)).holds (u 10) w_ := hd.get 2 (by kernel_rfl)
          simp only [Fact.holds] at h10
          clear hd
          simp only [h10, h11] at hK
          go_simp
          exact hK.out undef w_ (Chg.refl _ _) rfl
        · intro u w_ hc hd K hK -- 13
          have h12 : (Fact.val undef).holds (u 12) w_ := hd.get 4 (by kernel_rfl)
          simp only [Fact.holds] at h12
          have h10 : (Fact.val (.bool false)).holds (u 10) w_ := hd.get 2 (by kernel_rfl)
          simp only [Fact.holds] at h10
          clear hd
          simp only [h10, h12] at hK
          go_simp
          exact hK.out undef w_ (Chg.refl _ _) rfl
        · intro u w_ hc hd K hK -- 14
          have h13 : (Fact.val undef).holds (u 13) w_ := hd.get 5 (by kernel_rfl)
          simp only [Fact.holds] at h13
          have h10 : (Fact.val (.bool false)).holds (u 10) w_ := hd.get 2 (by kernel_rfl)
          simp only [Fact.holds] at h10
          clear hd
          simp only [h10, h13] at hK
          go_simp
          exact hK.out undef w_ (Chg.refl _ _) rfl
        · intro u w_ hc hd K hK -- 15
          have h10 : (Fact.val (.bool false)).holds (u 10) w_ := hd.get 2 (by kernel_rfl)
          simp only [Fact.holds] at h10
          clear hd
          simp only [h10] at hK
          go_simp
          exact hK.out undef w_ (Chg.refl _ _) rfl
        · intro u w_ hc hd K hK -- 16
          have h15 : (Fact.val undef).holds (u 15) w_ := hd.get 7 (by kernel_rfl)
          simp only [Fact.holds] at h15
          have h10 : (Fact.val (.bool false)).holds (u 10) w_ := hd.get 2 (by kernel_rfl)
          simp only [Fact.holds] at h10
          clear hd
          simp only [h10, h15] at hK
          go_simp
          exact hK.out undef w_ (Chg.refl _ _) rfl
        · intro u w_ hc hd K hK -- 17
          have h16 : (Fact.val undef).holds (u 16) w_ := hd.get 8 (by kernel_rfl)
          simp only [Fact.holds] at h16
          have h10 : (Fact.val (.bool false)).holds (u 10) w_ := hd.get 2 (by kernel_rfl)
          simp only [Fact.holds] at h10
          clear hd
          simp only [h10, h16] at hK
          go_simp
          exact hK.out undef w_ (Chg.refl _ _) rfl
        · intro u w_ hc hd K hK -- 18
          have h17 : (Fact.val undef).holds (u 17) w_ := hd.get 9 (by kernel_rfl)
          simp only [Fact.holds] at h17
          have h10 : (Fact.val (.bool false)).holds (u 10) w_ := hd.get 2 (by kernel_rfl)
          simp only [Fact.holds] at h10
          clear hd
          simp only [h10, h17] at hK
          go_simp
          exact hK.out undef w_ (Chg.refl _ _) rfl
        · intro u w_ hc hd K hK -- 19
          have h10 : (Fact.val (.bool false)).holds (u 10) w_ := hd.get 2 (by kernel_rfl)
          simp only [Fact.holds] at h10
          clear hd
          simp only [h10] at hK
          go_simp
          exact hK.out undef w_ (Chg.refl _ _) rfl
        · intro u w_ hc hd K hK -- 20
          have h18 : (Fact.val undef).holds (u 18) w_ := hd.get 10 (by kernel_rfl)
          simp only [Fact.holds] at h18
          have h19 : (Fact.val undef).holds (u 19) w_ := hd.get 11 (by kernel_rfl)
          simp only [Fact.holds] at h19
          have h10 : (Fact.val (.bool false)).holds (u 10) w_ := hd.get 2 (by kernel_rfl)
          simp only [Fact.holds] at h10
          clear hd
          simp only [h10, h18, h19] at hK
          go_simp
          exact hK.out undef w_ (Chg.refl _ _) rfl
        · intro u w_ hc hd K hK -- 21
          have h20 : (Fact.val undef).holds (u 20) w_ := hd.get 12 (by kernel_rfl)
          simp only [Fact.holds] at h20
          have h10 : (Fact.val (.bool false)).holds (u 10) w_ := hd.get 2 (by kernel_rfl)
          simp only [Fact.holds] at h10
          clear hd
          simp only [h10, h20] at hK
          go_simp
          exact hK.out undef w_ (Chg.refl _ _) rfl
        · intro u w_ hc hd K hK -- 22
          have h10 : (Fact.val (.bool false)).holds (u 10) w_ := hd.get 2 (by kernel_rfl)
          simp only [Fact.holds] at h10
          clear hd
          simp only [h10] at hK
          go_simp
          exact hK.out undef w_ (Chg.refl _ _) rfl
        · intro u w_ hc hd K hK -- 23
          have h22 : (Fact.val undef).holds (u 22) w_ := hd.get 14 (by kernel_rfl)
          simp only [Fact.holds] at h22
          have h10 : (Fact.val (.bool false)).holds (u 10) w_ := hd.get 2 (by kernel_rfl)
          simp only [Fact.holds] at h10
          clear hd
          simp only [h10, h22] at hK
          go_simp
          exact hK.out undef w_ (Chg.refl _ _) rfl
        · intro u w_ hc hd K hK -- 24
          have h23 : (Fact.val undef).holds (u 23) w_ := hd.get 15 (by kernel_rfl)
          simp only [Fact.holds] at h23
          have h10 : (Fact.val (.bool false)).holds (u 10) w_ := hd.get 2 (by kernel_rfl)
          simp only [Fact.holds] at h10
          clear hd
          simp only [h10, h23] at hK
          go_simp
          exact hK.out undef w_ (Chg.refl _ _) rfl
        · intro u w_ hc hd K hK -- 25
          have h24 : (Fact.val undef).holds (u 24) w_ := hd.get 16 (by kernel_rfl)
          simp only [Fact.holds] at h24
          have h10 : (Fact.val (.bool false)).holds (u 10) w_ := hd.get 2 (by kernel_rfl)
          simp only [Fact.holds] at h10
          clear hd
          simp only [h10, h24] at hK
          go_simp
          exact hK.out undef w_ (Chg.refl _ _) rfl
        · intro u w_ hc hd K hK -- 26
          have h10 : (Fact.val (.bool false)).holds (u 10) w_ := hd.get 2 (by kernel_rfl)
          simp only [Fact.holds] at h10
          clear hd
          simp only [h10] at hK
          go_simp
          exact hK.out undef w_ (Chg.refl _ _) rfl
        · intro u w_ hc hd K hK -- 27
          have h25 : (Fact.val undef).holds (u 25) w_ := hd.get 17 (by kernel_rfl)
          simp only [Fact.holds] at h25
          have h26 : (Fact.val undef).holds (u 26) w_ := hd.get 18 (by kernel_rfl)
          simp only [Fact.holds] at h26
          have h10 : (Fact.val (.bool false)).holds (u 10) w_ := hd.get 2 (by kernel_rfl)
          simp only [Fact.holds] at h10
          clear hd
          simp only [h10, h25, h26] at hK
          go_simp
          exact hK.out undef w_ (Chg.refl _ _) rfl
        · intro u w_ hc hd K hK -- 28
          have h27 : (Fact.val undef).holds (u 27) w_ := hd.get 19 (by kernel_rfl)
          simp only [Fact.holds] at h27
          have h10 : (Fact.val (.bool false)).holds (u 10) w_ := hd.get 2 (by kernel_rfl)
          simp only [Fact.holds] at h10
          clear hd
          simp only [h10, h27] at hK
          go_simp
          exact hK.out undef w_ (Chg.refl _ _) rfl
        · intro u w_ hc hd K hK -- 29
          have h14 : (Fact.val undef).holds (u 14) w_ := hd.get 6 (by kernel_rfl)
          simp only [Fact.holds] at h14
          have h21 : (Fact.val undef).holds (u 21) w_ := hd.get 13 (by kernel_rfl)
          simp only [Fact.holds] at h21
          have h28 : (Fact.val undef).holds (u 28) w_ := hd.get 20 (by kernel_rfl)
          simp only [Fact.holds] at h28
          have h10 : (Fact.val (.bool false)).holds (u 10) w_ := hd.get 2 (by kernel_rfl)
          simp only [Fact.holds] at h10
          clear hd
          simp only [h10, h14, h21, h28] at hK
          go_simp
          exact hK.out undef w_ (Chg.refl _ _) rfl
      · intro u w7 hc hA K hK
        have h10 : (Fact.val (.bool false)).holds (u 10) w7 := hA.at 10 (by kernel_rfl)
        simp only [Fact.holds] at h10
        clear hA
        simp only [h10] at hK ⊢
        go_simp
        refine hK.out _ _ ?_
        go_wp2
        go_end0
        exact ⟨rfl, HE.out w7 hc⟩
    · obtain ⟨p, hp⟩ : ∃ p, (j - 1) / 2 = p := ⟨_, rfl⟩
      have hpj : p < j := by omega
      have hd0 : decide (0 < j) = true := by simp; omega
      have hpn : p < n := by omega
      have hlen := HI.out.1
      have hH := HI.out.2.2.2.1
      have k0 := cell0 hH.blk
      have k1 := cell1 hH.blk
      obtain ⟨pj, hpj'⟩ : ∃ x, nth l2 j = x := ⟨_, rfl⟩
      obtain ⟨pp, hpp⟩ : ∃ x, nth l2 p = x := ⟨_, rfl⟩
      obtain ⟨c10, c11⟩ := (put2 (by have := hH.own; rw [hlen] at this; exact this) hlen j (by omega) pp).1
      obtain ⟨c20, c21⟩ := (put2 (by have := hH.own; rw [hlen] at this; exact this) hlen p (by omega) pj).1
      rw [hpj'] at c10 c11
      rw [hpp] at c20 c21
      have HPJ : Hid (nth l2 j = pj ∧ nth l2 p = pp ∧ (j - 1) / 2 = p) := ⟨hpj', hpp, hp⟩
      obtain ⟨b, hb⟩ : ∃ b, ltb pj pp = b := ⟨_, rfl⟩
      have HB : Hid (ltb pj pp = b) := hb
      have HPL : Hid (p < j) := hpj
      have HJN : Hid (j < n) := hj
      rw [hp]
      clear hlen hH hpj' hpp hb hp hj0 hpj
      go_upto_region 1 with fail
      refine wp_region_last (mk := fun u => #[_, _, _, _, _, _, _, _, u 8, u 9, u 10, u 11, u 12, u 13, u 14, u 15, u 16, u 17, u 18, u 19, u 20, u 21, u 22, u 23, u 24, u 25, u 26, u 27, u 28, u 29, _, _, _, _, _, _, _, _, _, _, _, _, _, _, _, _, _, _, _, _, _, _, _, _, _, _, _, _, _, _, _]) (F := fun slot vv ww => (look [(8, .val (.int .i64 (j : Int))), (9, .val (.bool true)), (10, .val (.bool true)), (11, .val (.pointer (some ⟨a, 0, none⟩))), (12, .val (.pointer (some ⟨a, 0, none⟩))), (13, .val (.pointer (some ⟨a, 0, none⟩))), (14, .val (chF)), (15, .val (.pointer (some ⟨a, 0, none⟩))), (16, .val (.pointer (some ⟨a, 0, none⟩))), (17, .val (.pointer (some ⟨a, 1, none⟩))), (18, .val (.slice (some ⟨g, 0, none⟩) n c)), (19, .val (.int .i64 (j : Int))), (20, .val (.pointer (some ⟨g, j * 2, none⟩))), (21, .val (.agg #[.int .i64 pj.1, .int .i64 pj.2])), (22, .val (.pointer (some ⟨a, 0, none⟩))), (23, .val (.pointer (some ⟨a, 0, none⟩))), (24, .val (.pointer (some ⟨a, 1, none⟩))), (25, .val (.slice (some ⟨g, 0, none⟩) n c)), (26, .val (.int .i64 (p : Int))), (27, .val (.pointer (some ⟨g, p * 2, none⟩))), (28, .val (.agg #[.int .i64 pp.1, .int .i64 pp.2])), (29, .val (.bool b))] slot).holds vv ww) (fun slot => match slot with | 8 => u8 | 9 => u9 | 10 => u10 | 11 => u11 | 12 => u12 | 13 => u13 | 14 => u14 | 15 => u15 | 16 => u16 | 17 => u17 | 18 => u18 | 19 => u19 | 20 => u20 | 21 => u21 | 22 => u22 | 23 => u23 | 24 => u24 | 25 => u25 | 26 => u26 | 27 => u27 | 28 => u28 | 29 => u29 | 30 => u30 | _ => undef) rfl (by kernel_rfl) 22 _ rfl rfl (by kernel_rfl) ?_ (fun _ v w w' hc h => Fact.stays _ v w w' hc h) ?_ ?_
      · repeat (refine ⟨⟨_, rfl, fun _ _ => rfl⟩, ?_⟩)
        exact trivial
      · refine ⟨?_, ?_, ?_, ?_, ?_, ?_, ?_, ?_, ?_, ?_, ?_, ?_, ?_, ?_, ?_, ?_, ?_, ?_, ?_, ?_, ?_, ?_, trivial⟩
        · intro u w_ hc hd K hK -- 8
          clear hd
          go_simp
          exact hK.out (.int .i64 (j : Int)) w_ (Chg.refl _ _) rfl
        · intro u w_ hc hd K hK -- 9
          have h8 : (Fact.val (.int .i64 (j : Int))).holds (u 8) w_ := hd.get 0 (by kernel_rfl)
          simp only [Fact.holds] at h8
          clear hd
          simp only [h8] at hK
          go_simp
          exact hK.out _ w_ (Chg.refl _ _) rfl
        · intro u w_ hc hd K hK -- 10
          have h9 : (Fact.val (.bool true)).holds (u 9) w_ := hd.get 1 (by kernel_rfl)
          simp only [Fact.holds] at h9
          clear hd
          simp only [h9] at hK
          go_simp
          exact hK.out (.bool true) w_ (Chg.refl _ _) rfl
        · intro u w_ hc hd K hK -- 11
          have h10 : (Fact.val (.bool true)).holds (u 10) w_ := hd.get 2 (by kernel_rfl)
          simp only [Fact.holds] at h10
          clear hd
          simp only [h10] at hK
          go_simp
          exact hK.out (.pointer (some ⟨a, 0, none⟩)) w_ (Chg.refl _ _) rfl
        · intro u w_ hc hd K hK -- 12
          have h11 : (Fact.val (.pointer (some ⟨a, 0, none⟩))).holds (u 11) w_ := hd.get 3 (by kernel_rfl)
          simp only [Fact.holds] at h11
          have h10 : (Fact.val (.bool true)).holds (u 10) w_ := hd.get 2 (by kernel_rfl)
          simp only [Fact.holds] at h10
          clear hd
          simp only [h10, h11] at hK
          go_simp
          exact hK.out (.pointer (some ⟨a, 0, none⟩)) w_ (Chg.refl _ _) rfl
        · intro u w_ hc hd K hK -- 13
          have h12 : (Fact.val (.pointer (some ⟨a, 0, none⟩))).holds (u 12) w_ := hd.get 4 (by kernel_rfl)
          simp only [Fact.holds] at h12
          have h10 : (Fact.val (.bool true)).holds (u 10) w_ := hd.get 2 (by kernel_rfl)
          simp only [Fact.holds] at h10
          clear hd
          simp only [h10, h12] at hK
          go_simp
          exact hK.out (.pointer (some ⟨a, 0, none⟩)) w_ (Chg.refl _ _) rfl
        · intro u w_ hc hd K hK -- 14
          have h13 : (Fact.val (.pointer (some ⟨a, 0, none⟩))).holds (u 13) w_ := hd.get 5 (by kernel_rfl)
          simp only [Fact.holds] at h13
          have h10 : (Fact.val (.bool true)).holds (u 10) w_ := hd.get 2 (by kernel_rfl)
          simp only [Fact.holds] at h10
          clear hd
          simp only [h10, h13] at hK
          have x0 := cell_chg k0 hc
          go_simp
          exact hK.out _ w_ (Chg.refl _ _) rfl
        · intro u w_ hc hd K hK -- 15
          have h10 : (Fact.val (.bool true)).holds (u 10) w_ := hd.get 2 (by kernel_rfl)
          simp only [Fact.holds] at h10
          clear hd
          simp only [h10] at hK
          go_simp
          exact hK.out (.pointer (some ⟨a, 0, none⟩)) w_ (Chg.refl _ _) rfl
        · intro u w_ hc hd K hK -- 16
          have h15 : (Fact.val (.pointer (some ⟨a, 0, none⟩))).holds (u 15) w_ := hd.get 7 (by kernel_rfl)
          simp only [Fact.holds] at h15
          have h10 : (Fact.val (.bool true)).holds (u 10) w_ := hd.get 2 (by kernel_rfl)
          simp only [Fact.holds] at h10
          clear hd
          simp only [h10, h15] at hK
          go_simp
          exact hK.out (.pointer (some ⟨a, 0, none⟩)) w_ (Chg.refl _ _) rfl
        · intro u w_ hc hd K hK -- 17
          have h16 : (Fact.val (.pointer (some ⟨a, 0, none⟩))).holds (u 16) w_ := hd.get 8 (by kernel_rfl)
          simp only [Fact.holds] at h16
          have h10 : (Fact.val (.bool true)).holds (u 10) w_ := hd.get 2 (by kernel_rfl)
          simp only [Fact.holds] at h10
          clear hd
          simp only [h10, h16] at hK
          go_simp
          exact hK.out (.pointer (some ⟨a, 1, none⟩)) w_ (Chg.refl _ _) rfl
        · intro u w_ hc hd K hK -- 18
          have h17 : (Fact.val (.pointer (some ⟨a, 1, none⟩))).holds (u 17) w_ := hd.get 9 (by kernel_rfl)
          simp only [Fact.holds] at h17
          have h10 : (Fact.val (.bool true)).holds (u 10) w_ := hd.get 2 (by kernel_rfl)
          simp only [Fact.holds] at h10
          clear hd
          simp only [h10, h17] at hK
          have x0 := cell_chg k1 hc
          go_simp
          exact hK.out _ w_ (Chg.refl _ _) rfl
        · intro u w_ hc hd K hK -- 19
          have h10 : (Fact.val (.bool true)).holds (u 10) w_ := hd.get 2 (by kernel_rfl)
          simp only [Fact.holds] at h10
          clear hd
          simp only [h10] at hK
          go_simp
          exact hK.out (.int .i64 (j : Int)) w_ (Chg.refl _ _) rfl
        · intro u w_ hc hd K hK -- 20
          have h18 : (Fact.val (.slice (some ⟨g, 0, none⟩) n c)).holds (u 18) w_ := hd.get 10 (by kernel_rfl)
          simp only [Fact.holds] at h18
          have h19 : (Fact.val (.int .i64 (j : Int))).holds (u 19) w_ := hd.get 11 (by kernel_rfl)
          simp only [Fact.holds] at h19
          have h10 : (Fact.val (.bool true)).holds (u 10) w_ := hd.get 2 (by kernel_rfl)
          simp only [Fact.holds] at h10
          clear hd
          simp only [h10, h18, h19] at hK
          go_simp
          exact hK.out (.pointer (some ⟨g, j * 2, none⟩)) w_ (Chg.refl _ _) rfl
        · intro u w_ hc hd K hK -- 21
          have h20 : (Fact.val (.pointer (some ⟨g, j * 2, none⟩))).holds (u 20) w_ := hd.get 12 (by kernel_rfl)
          simp only [Fact.holds] at h20
          have h10 : (Fact.val (.bool true)).holds (u 10) w_ := hd.get 2 (by kernel_rfl)
          simp only [Fact.holds] at h10
          clear hd
          simp only [h10, h20] at hK
          have x0 := cell_chg c10 hc
          have x1 := cell_chg c11 hc
          go_simp
          exact hK.out _ w_ (Chg.refl _ _) rfl
        · intro u w_ hc hd K hK -- 22
          have h10 : (Fact.val (.bool true)).holds (u 10) w_ := hd.get 2 (by kernel_rfl)
          simp only [Fact.holds] at h10
          clear hd
          simp only [h10] at hK
          go_simp
          exact hK.out (.pointer (some ⟨a, 0, none⟩)) w_ (Chg.refl _ _) rfl
        · intro u w_ hc hd K hK -- 23
          have h22 : (Fact.val (.pointer (some ⟨a, 0, none⟩))).holds (u 22) w_ := hd.get 14 (by kernel_rfl)
          simp only [Fact.holds] at h22
          have h10 : (Fact.val (.bool true)).holds (u 10) w_ := hd.get 2 (by kernel_rfl)
          simp only [Fact.holds] at h10
          clear hd
          simp only [h10, h22] at hK
          go_simp
          exact hK.out (.pointer (some ⟨a, 0, none⟩)) w_ (Chg.refl _ _) rfl
        · intro u w_ hc hd K hK -- 24
          have h23 : (Fact.val (.pointer (some ⟨a, 0, none⟩))).holds (u 23) w_ := hd.get 15 (by kernel_rfl)
          simp only [Fact.holds] at h23
          have h10 : (Fact.val (.bool true)).holds (u 10) w_ := hd.get 2 (by kernel_rfl)
          simp only [Fact.holds] at h10
          clear hd
          simp only [h10, h23] at hK
          go_simp
          exact hK.out (.pointer (some ⟨a, 1, none⟩)) w_ (Chg.refl _ _) rfl
        · intro u w_ hc hd K hK -- 25
          have h24 : (Fact.val (.pointer (some ⟨a, 1, none⟩))).holds (u 24) w_ := hd.get 16 (by kernel_rfl)
          simp only [Fact.holds] at h24
          have h10 : (Fact.val (.bool true)).holds (u 10) w_ := hd.get 2 (by kernel_rfl)
          simp only [Fact.holds] at h10
          clear hd
          simp only [h10, h24] at hK
          have x0 := cell_chg k1 hc
          go_simp
          exact hK.out _ w_ (Chg.refl _ _) rfl
        · intro u w_ hc hd K hK -- 26
          have h10 : (Fact.val (.bool true)).holds (u 10) w_ := hd.get 2 (by kernel_rfl)
          simp only [Fact.holds] at h10
          clear hd
          simp only [h10] at hK
          go_simp
          exact hK.out (.int .i64 (p : Int)) w_ (Chg.refl _ _) rfl
        · intro u w_ hc hd K hK -- 27
          have h25 : (Fact.val (.slice (some ⟨g, 0, none⟩) n c)).holds (u 25) w_ := hd.get 17 (by kernel_rfl)
          simp only [Fact.holds] at h25
          have h26 : (Fact.val (.int .i64 (p : Int))).holds (u 26) w_ := hd.get 18 (by kernel_rfl)
          simp only [Fact.holds] at h26
          have h10 : (Fact.val (.bool true)).holds (u 10) w_ := hd.get 2 (by kernel_rfl)
          simp only [Fact.holds] at h10
          clear hd
          simp only [h10, h25, h26] at hK
          go_simp
          exact hK.out (.pointer (some ⟨g, p * 2, none⟩)) w_ (Chg.refl _ _) rfl
        · intro u w_ hc hd K hK -- 28
          have h27 : (Fact.val (.pointer (some ⟨g, p * 2, none⟩))).holds (u 27) w_ := hd.get 19 (by kernel_rfl)
          simp only [Fact.holds] at h27
          have h10 : (Fact.val (.bool true)).holds (u 10) w_ := hd.get 2 (by kernel_rfl)
          simp only [Fact.holds] at h10
          clear hd
          simp only [h10, h27] at hK
          have x0 := cell_chg c20 hc
          have x1 := cell_chg c21 hc
          go_simp
          exact hK.out _ w_ (Chg.refl _ _) rfl
        · intro u w_ hc hd K hK -- 29
          have h14 : (Fact.val (chF)).holds (u 14) w_ := hd.get 6 (by kernel_rfl)
          simp only [Fact.holds] at h14
          have h21 : (Fact.val (.agg #[.int .i64 pj.1, .int .i64 pj.2])).holds (u 21) w_ := hd.get 13 (by kernel_rfl)
          simp only [Fact.holds] at h21
          have h28 : (Fact.val (.agg #[.int .i64 pp.1, .int .i64 pp.2])).holds (u 28) w_ := hd.get 20 (by kernel_rfl)
          simp only [Fact.holds] at h28
          have h10 : (Fact.val (.bool true)).holds (u 10) w_ := hd.get 2 (by kernel_rfl)
          simp only [Fact.holds] at h10
          clear hd
          simp only [h10, h14, h21, h28] at hK
          unfold chF at *
          go_simp
          refine Calls.mono (cheaper_any pj pp w_) ?_
          rintro z w2 ⟨rfl, c2⟩
          rw [HB.out]
          exact hK.out _ w2 c2 rfl
      · intro u w7 hc hA K hK
        have h10 : (Fact.val (.bool true)).holds (u 10) w7 := hA.at 10 (by kernel_rfl)
        have h29 : (Fact.val (.bool b)).holds (u 29) w7 := hA.at 29 (by kernel_rfl)
        simp only [Fact.holds] at h10 h29
        clear hA
        have HC7 : Hid (Chg (fun _ => False) wr w7) := hc
        clear hc k0 k1 c10 c11 c20 c21
        simp only [h10, h29] at hK ⊢
        go_simp
        refine hK.out _ _ ?_
        clear hK h10 h29
        cases b with
        | false =>
          go_wp2
          go_end0
          refine ⟨rfl, l2, HI.out.2.2.2.1.new HC7.out, HI.out.2.2.1, up_end HI.out.2.1 ?_, HI.out.2.2.2.2.trans HC7.out (fun _ f => f.elim)⟩
          rw [HPJ.out.2.2, HPJ.out.2.1, HPJ.out.1]
          exact ltb_not HB.out
        | true =>
          have hH := HI.out.2.2.2.1.new HC7.out
          have hlen := HI.out.1
          have hO : w7.ownsRow B 47 2 (.slice (some ⟨g, 0, none⟩) n c) n (prcs l2) := by have := hH.own; rw [hlen] at this; exact this
          go_upto_region 3 with fail
          obtain ⟨W0, hW0⟩ : ∃ W0, w7.drew = W0 := ⟨_, rfl⟩
          have cD : Chg (fun _ => False) w7 W0 := by rw [← hW0]; exact (Chg.refl _ w7).drew
          have hO0 := owns_keep hO cD (fun _ _ f => f)
          have k0 := cell_chg (cell0 hH.blk) cD
          have k1 := cell_chg (cell1 hH.blk) cD
          obtain ⟨⟨c10, c11⟩, f1, x1, y1, hO1, d1⟩ := put2 hO0 hlen j hj pp
          have hlen1 : (l2.set j pp).length = n := by simpa using hlen
          obtain ⟨⟨c20, c21⟩, f2, x2, y2, hO2, d2⟩ := put2 hO1 hlen1 p hpn pj
          obtain ⟨e20, e21⟩ := (put2 hO0 hlen p hpn pj).1
          rw [HPJ.out.1] at c10 c11 x1
          rw [HPJ.out.2.1] at e20 e21
          have HS : Hid ((l2.set j pp).set p pj = swp l2 j ((j - 1) / 2)) := by show _ = _; unfold swp; rw [HPJ.out.2.2, HPJ.out.1, HPJ.out.2.1]
          obtain ⟨W1, hW1⟩ : ∃ W1, (W0.setCell ⟨g, j * 2, none⟩ (.int .i64 pp.1)).setCell ⟨g, j * 2 + 1, none⟩ (.int .i64 pp.2) = W1 := ⟨_, rfl⟩
          have HW1 : Hid ((W0.setCell ⟨g, j * 2, none⟩ (.int .i64 pp.1)).setCell ⟨g, j * 2 + 1, none⟩ (.int .i64 pp.2) = W1) := hW1
          rw [hW1] at c20 c21 f2 x2 y2 hO2 d1 d2
          have HG : Hid (g ≠ a) := fun e => hH.ne (by subst e; rfl)
          have HD : Hid (Chg (fun z => z = g) w7 ((W1.setCell ⟨g, p * 2, none⟩ (.int .i64 pj.1)).setCell ⟨g, p * 2 + 1, none⟩ (.int .i64 pj.2))) := ((cD.mono (fun _ f => f.elim)).trans d1 (fun _ f => .inl f)).trans d2 (fun _ f => .inl f)
          have HO2 : Hid _ := hO2
          have HH7 : Hid (Hl w7 B a chF (.slice (some ⟨g, 0, none⟩) n c) l2) := hH
          clear hH hlen hO hO0 hO1 d1 d2 hlen1 hW1 cD hO2
          have HW0 : Hid (w7.drew = W0) := hW0
          clear hW0
          refine wp_region_phaseM (mk := fun u => #[_, _, _, _, _, _, _, _, _, _, _, _, _, _, _, _, _, _, _, _, _, _, _, _, _, _, _, _, _, _, _, _, _, _, u 34, u 35, u 36, u 37, u 38, u 39, u 40, u 41, u 42, u 43, u 44, u 45, u 46, u 47, u 48, u 49, u 50, u 51, u 52, u 53, u 54, u 55, u 56, u 57, u 58, u 59, _]) (G := lookG [(34, .pointer (some ⟨a, 0, none⟩)), (35, .pointer (some ⟨a, 0, none⟩)), (36, .pointer (some ⟨a, 1, none⟩)), (37, .slice (some ⟨g, 0, none⟩) n c), (38, .int .i64 (j : Int)), (39, .pointer (some ⟨a, 0, none⟩)), (40, .pointer (some ⟨a, 0, none⟩)), (41, .pointer (some ⟨a, 1, none⟩)), (42, .slice (some ⟨g, 0, none⟩) n c), (43, .int .i64 (p : Int)), (44, .pointer (some ⟨a, 0, none⟩)), (45, .pointer (some ⟨a, 0, none⟩)), (46, .pointer (some ⟨a, 1, none⟩)), (47, .slice (some ⟨g, 0, none⟩) n c), (48, .int .i64 (p : Int)), (49, .pointer (some ⟨g, p * 2, none⟩)), (50, .agg #[.int .i64 pp.1, .int .i64 pp.2]), (51, .pointer (some ⟨a, 0, none⟩)), (52, .pointer (some ⟨a, 0, none⟩)), (53, .pointer (some ⟨a, 1, none⟩)), (54, .slice (some ⟨g, 0, none⟩) n c), (55, .int .i64 (j : Int)), (56, .pointer (some ⟨g, j * 2, none⟩)), (57, .agg #[.int .i64 pj.1, .int .i64 pj.2]), (58, .pointer (some ⟨g, j * 2, none⟩)), (59, .pointer (some ⟨g, p * 2, none⟩))]) (J := fun q u ww => SwJ W0 W1 q ww) [25] (fun i => if i = 3 then 0 else if i = 8 then 0 else if i = 13 then 0 else if i = 16 then 0 else if i = 20 then 0 else if i = 23 then 0 else 1) ([]) (fun slot => match slot with | 34 => u34 | 35 => u35 | 36 => u36 | 37 => u37 | 38 => u38 | 39 => u39 | 40 => u40 | 41 => u41 | 42 => u42 | 43 => u43 | 44 => u44 | 45 => u45 | 46 => u46 | 47 => u47 | 48 => u48 | 49 => u49 | 50 => u50 | 51 => u51 | 52 => u52 | 53 => u53 | 54 => u54 | 55 => u55 | 56 => u56 | 57 => u57 | 58 => u58 | 59 => u59 | _ => undef) rfl (by kernel_rfl) 27 _ rfl rfl (by kernel_rfl) (by kernel_rfl) (by kernel_rfl) (by decide) ?_ ?_ ?_ (by kernel_rfl) ?_ ?_
          · repeat (refine ⟨fun _ _ => rfl, ?_⟩)
            exact trivial
          · exact fun q u u2 ww _ h => h
          · exact HW0.out
          · refine ⟨?_, ?_, ?_, ?_, ?_, ?_, ?_, ?_, ?_, ?_, ?_, ?_, ?_, ?_, ?_, ?_, ?_, ?_, ?_, ?_, ?_, ?_, ?_, ?_, ?_, ?_, ?_, trivial⟩
            · show StepRQ _ _ _ _ _ _ _ _ _ -- 34
              unfold StepRQ
              intro qn hq u w_ hj hd K hK
              clear hd
              go_simp
              exact hK.out (.pointer (some ⟨a, 0, none⟩)) rfl
            · show StepRQ _ _ _ _ _ _ _ _ _ -- 35
              unfold StepRQ
              intro qn hq u w_ hj hd K hK
              have h34 : u 34 = .pointer (some ⟨a, 0, none⟩) := hd.get 0 (by kernel_rfl)
              clear hd
              simp only [h34] at hK
              go_simp
              exact hK.out (.pointer (some ⟨a, 0, none⟩)) rfl
            · show StepRQ _ _ _ _ _ _ _ _ _ -- 36
              unfold StepRQ
              intro qn hq u w_ hj hd K hK
              have h35 : u 35 = .pointer (some ⟨a, 0, none⟩) := hd.get 1 (by kernel_rfl)
              clear hd
              simp only [h35] at hK
              go_simp
              exact hK.out (.pointer (some ⟨a, 1, none⟩)) rfl
            · show StepRQ _ _ _ _ _ _ _ _ _ -- 37
              unfold StepRQ
              intro qn hq u w_ hj hd K hK
              have h36 : u 36 = .pointer (some ⟨a, 1, none⟩) := hd.get 2 (by kernel_rfl)
              clear hd
              simp only [h36] at hK
              obtain rfl : qn = 0 := by simpa using hq
              obtain rfl : w_ = W0 := hj
              go_simp
              exact hK.out _ rfl
            · show StepRQ _ _ _ _ _ _ _ _ _ -- 38
              unfold StepRQ
              intro qn hq u w_ hj hd K hK
              clear hd
              go_simp
              exact hK.out (.int .i64 (j : Int)) rfl
            · show StepRQ _ _ _ _ _ _ _ _ _ -- 39
              unfold StepRQ
              intro qn hq u w_ hj hd K hK
              clear hd
              go_simp
              exact hK.out (.pointer (some ⟨a, 0, none⟩)) rfl
            · show StepRQ _ _ _ _ _ _ _ _ _ -- 40
              unfold StepRQ
              intro qn hq u w_ hj hd K hK
              have h39 : u 39 = .pointer (some ⟨a, 0, none⟩) := hd.get 5 (by kernel_rfl)
              clear hd
              simp only [h39] at hK
              go_simp
              exact hK.out (.pointer (some ⟨a, 0, none⟩)) rfl
            · show StepRQ _ _ _ _ _ _ _ _ _ -- 41
              unfold StepRQ
              intro qn hq u w_ hj hd K hK
              have h40 : u 40 = .pointer (some ⟨a, 0, none⟩) := hd.get 6 (by kernel_rfl)
              clear hd
              simp only [h40] at hK
              go_simp
              exact hK.out (.pointer (some ⟨a, 1, none⟩)) rfl
            · show StepRQ _ _ _ _ _ _ _ _ _ -- 42
              unfold StepRQ
              intro qn hq u w_ hj hd K hK
              have h41 : u 41 = .pointer (some ⟨a, 1, none⟩) := hd.get 7 (by kernel_rfl)
              clear hd
              simp only [h41] at hK
              obtain rfl : qn = 0 := by simpa using hq
              obtain rfl : w_ = W0 := hj
              go_simp
              exact hK.out _ rfl
            · show StepRQ _ _ _ _ _ _ _ _ _ -- 43
              unfold StepRQ
              intro qn hq u w_ hj hd K hK
              clear hd
              go_simp
              exact hK.out (.int .i64 (p : Int)) rfl
            · show StepRQ _ _ _ _ _ _ _ _ _ -- 44
              unfold StepRQ
              intro qn hq u w_ hj hd K hK
              clear hd
              go_simp
              exact hK.out (.pointer (some ⟨a, 0, none⟩)) rfl
            · show StepRQ _ _ _ _ _ _ _ _ _ -- 45
              unfold StepRQ
              intro qn hq u w_ hj hd K hK
              have h44 : u 44 = .pointer (some ⟨a, 0, none⟩) := hd.get 10 (by kernel_rfl)
              clear hd
              simp only [h44] at hK
              go_simp
              exact hK.out (.pointer (some ⟨a, 0, none⟩)) rfl
            · show StepRQ _ _ _ _ _ _ _ _ _ -- 46
              unfold StepRQ
              intro qn hq u w_ hj hd K hK
              have h45 : u 45 = .pointer (some ⟨a, 0, none⟩) := hd.get 11 (by kernel_rfl)
              clear hd
              simp only [h45] at hK
              go_simp
              exact hK.out (.pointer (some ⟨a, 1, none⟩)) rfl
            · show StepRQ _ _ _ _ _ _ _ _ _ -- 47
              unfold StepRQ
              intro qn hq u w_ hj hd K hK
              have h46 : u 46 = .pointer (some ⟨a, 1, none⟩) := hd.get 12 (by kernel_rfl)
              clear hd
              simp only [h46] at hK
              obtain rfl : qn = 0 := by simpa using hq
              obtain rfl : w_ = W0 := hj
              go_simp
              exact hK.out _ rfl
            · show StepRQ _ _ _ _ _ _ _ _ _ -- 48
              unfold StepRQ
              intro qn hq u w_ hj hd K hK
              clear hd
              go_simp
              exact hK.out (.int .i64 (p : Int)) rfl
            · show StepRQ _ _ _ _ _ _ _ _ _ -- 49
              unfold StepRQ
              intro qn hq u w_ hj hd K hK
              have h47 : u 47 = .slice (some ⟨g, 0, none⟩) n c := hd.get 13 (by kernel_rfl)
              have h48 : u 48 = .int .i64 (p : Int) := hd.get 14 (by kernel_rfl)
              clear hd
              simp only [h47, h48] at hK
              go_simp
              exact hK.out (.pointer (some ⟨g, p * 2, none⟩)) rfl
            · show StepRQ _ _ _ _ _ _ _ _ _ -- 50
              unfold StepRQ
              intro qn hq u w_ hj hd K hK
              have h49 : u 49 = .pointer (some ⟨g, p * 2, none⟩) := hd.get 15 (by kernel_rfl)
              clear hd
              simp only [h49] at hK
              obtain rfl : qn = 0 := by simpa using hq
              obtain rfl : w_ = W0 := hj
              go_simp
              exact hK.out _ rfl
            · show StepRQ _ _ _ _ _ _ _ _ _ -- 51
              unfold StepRQ
              intro qn hq u w_ hj hd K hK
              clear hd
              go_simp
              exact hK.out (.pointer (some ⟨a, 0, none⟩)) rfl
            · show StepRQ _ _ _ _ _ _ _ _ _ -- 52
              unfold StepRQ
              intro qn hq u w_ hj hd K hK
              have h51 : u 51 = .pointer (some ⟨a, 0, none⟩) := hd.get 17 (by kernel_rfl)
              clear hd
              simp only [h51] at hK
              go_simp
              exact hK.out (.pointer (some ⟨a, 0, none⟩)) rfl
            · show StepRQ _ _ _ _ _ _ _ _ _ -- 53
              unfold StepRQ
              intro qn hq u w_ hj hd K hK
              have h52 : u 52 = .pointer (some ⟨a, 0, none⟩) := hd.get 18 (by kernel_rfl)
              clear hd
              simp only [h52] at hK
              go_simp
              exact hK.out (.pointer (some ⟨a, 1, none⟩)) rfl
            · show StepRQ _ _ _ _ _ _ _ _ _ -- 54
              unfold StepRQ
              intro qn hq u w_ hj hd K hK
              have h53 : u 53 = .pointer (some ⟨a, 1, none⟩) := hd.get 19 (by kernel_rfl)
              clear hd
              simp only [h53] at hK
              obtain rfl : qn = 0 := by simpa using hq
              obtain rfl : w_ = W0 := hj
              go_simp
              exact hK.out _ rfl
            · show StepRQ _ _ _ _ _ _ _ _ _ -- 55
              unfold StepRQ
              intro qn hq u w_ hj hd K hK
              clear hd
              go_simp
              exact hK.out (.int .i64 (j : Int)) rfl
            · show StepRQ _ _ _ _ _ _ _ _ _ -- 56
              unfold StepRQ
              intro qn hq u w_ hj hd K hK
              have h54 : u 54 = .slice (some ⟨g, 0, none⟩) n c := hd.get 20 (by kernel_rfl)
              have h55 : u 55 = .int .i64 (j : Int) := hd.get 21 (by kernel_rfl)
              clear hd
              simp only [h54, h55] at hK
              go_simp
              exact hK.out (.pointer (some ⟨g, j * 2, none⟩)) rfl
            · show StepRQ _ _ _ _ _ _ _ _ _ -- 57
              unfold StepRQ
              intro qn hq u w_ hj hd K hK
              have h56 : u 56 = .pointer (some ⟨g, j * 2, none⟩) := hd.get 22 (by kernel_rfl)
              clear hd
              simp only [h56] at hK
              obtain rfl : qn = 0 := by simpa using hq
              obtain rfl : w_ = W0 := hj
              go_simp
              exact hK.out _ rfl
            · show StepRQ _ _ _ _ _ _ _ _ _ -- 58
              unfold StepRQ
              intro qn hq u w_ hj hd K hK
              have h37 : u 37 = .slice (some ⟨g, 0, none⟩) n c := hd.get 3 (by kernel_rfl)
              have h38 : u 38 = .int .i64 (j : Int) := hd.get 4 (by kernel_rfl)
              clear hd
              simp only [h37, h38] at hK
              go_simp
              exact hK.out (.pointer (some ⟨g, j * 2, none⟩)) rfl
            · show StepWQ _ _ _ _ _ _ _ _ _ -- #25
              unfold StepWQ
              intro u w_ hj hd K hK
              have h58 : u 58 = .pointer (some ⟨g, j * 2, none⟩) := hd.get 24 (by kernel_rfl)
              have h50 : u 50 = .agg #[.int .i64 pp.1, .int .i64 pp.2] := hd.get 16 (by kernel_rfl)
              clear hd
              simp only [h58, h50] at hK
              obtain rfl : w_ = W0 := hj
              go_simp
              rw [HW1.out]
              exact hK.out undef _ rfl trivial
            · show StepRQ _ _ _ _ _ _ _ _ _ -- 59
              unfold StepRQ
              intro qn hq u w_ hj hd K hK
              have h42 : u 42 = .slice (some ⟨g, 0, none⟩) n c := hd.get 8 (by kernel_rfl)
              have h43 : u 43 = .int .i64 (p : Int) := hd.get 9 (by kernel_rfl)
              clear hd
              simp only [h42, h43] at hK
              go_simp
              exact hK.out (.pointer (some ⟨g, p * 2, none⟩)) rfl
          · intro u w7_ hj hA K hK
            obtain rfl : w7_ = W1 := hj
            have h59 : u 59 = .pointer (some ⟨g, p * 2, none⟩) := hA.at 59 (by kernel_rfl)
            have h57 : u 57 = .agg #[.int .i64 pj.1, .int .i64 pj.2] := hA.at 57 (by kernel_rfl)
            clear hA hj
            simp only [h59, h57] at hK ⊢
            go_simp
            refine hK.out _ _ ?_
            have HE : Hid (Hl ((w7_.setCell ⟨g, p * 2, none⟩ (.int .i64 pj.1)).setCell ⟨g, p * 2 + 1, none⟩ (.int .i64 pj.2)) B a chF (.slice (some ⟨g, 0, none⟩) n c) (swp l2 j p)) := by
              refine ⟨HH7.out.ha, blk_keep HH7.out.blk HD.out (fun e => HG.out e.symm), ?_⟩
              have h9 := HO2.out
              rw [HS.out, HPJ.out.2.2] at h9
              rw [swp_len, HI.out.1]
              exact h9
            generalize (w7_.setCell ⟨g, p * 2, none⟩ (.int .i64 pj.1)).setCell ⟨g, p * 2 + 1, none⟩ (.int .i64 pj.2) = W2 at *
            have hqp := half_pred p
            have hpi : (p : Int) < 8796093022208 := by omega
            clear hK h59 h57 k0 k1 c10 c11 f1 x1 y1 c20 c21 f2 x2 y2 e20 e21
            go_wp2_with fail
            refine ⟨⟨p, swp l2 j p, by omega, rfl, by first | rfl | simp, (swp_len _ _ _).trans HI.out.1, ?_, (swp_perm (by rw [HI.out.1]; exact HJN.out) (by rw [HI.out.1]; exact hpn)).trans HI.out.2.2.1, HE.out, (HI.out.2.2.2.2.trans HC7.out (fun _ f => f.elim)).trans HD.out (fun _ f => .inl f)⟩, by simp [intOf]; exact HPL.out⟩
            have h9 := up_go HI.out.2.1 (Nat.lt_of_le_of_lt (Nat.zero_le _) HPL.out) (by rw [HI.out.1]; exact HJN.out) (by rw [HPJ.out.2.2, HPJ.out.2.1, HPJ.out.1]; exact ltb_le HB.out)
            rw [HPJ.out.2.2] at h9
            exact h9
end Go.Proofs.Ytoeimahlielklaa
