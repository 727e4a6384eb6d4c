/- Two filters beside the document's, and the book: what is known between two pieces; of no statement by itself. -/
import Derived.Test.YtefplppgkoanbaaDw
namespace Go.Proofs.Ytefplppgkoanbaa.Bk
open Go.RowKit
theorem Bk.push' {B : Nat} {w2 w3 : World} {lv lv' : Value} {hs : List Hd} {h : Hd} {o : Obj} (hb : Bk B w2 lv hs) (hr : Row B w2 h) (hfar : ∀ (i : Nat) (a : Hd), hs[i]? = some a → ∀ g, a.v.ownBlock = some g → h.v.ownBlock ≠ some g) (hok : h.ok) (hn : h.n ≤ 140737488351232)
    (hown : w3.ownsRow B 49 5 lv' (hs.length + 1) (hcells hs ++ h.cells)) (hg : (w2.alloc o).grownBy w3 lv.ownBlock) : Bk B w3 lv' (hs ++ [h]) := by
  have hc : Chg (fun k => lv.ownBlock = some k) w2 w3 := ((Chg.refl _ w2).alloc o).grown hg (fun k e => .inl e)
  have hget : ∀ (i : Nat) (a : Hd), (hs ++ [h])[i]? = some a → i < hs.length ∧ hs[i]? = some a ∨ i = hs.length ∧ a = h := fun i a e => by
    by_cases hi : i < hs.length
    · rw [List.getElem?_append_left hi] at e; exact .inl ⟨hi, e⟩
    · rw [List.getElem?_append_right (by omega)] at e
      by_cases hi2 : i = hs.length
      · subst hi2; simp at e; exact .inr ⟨rfl, e.symm⟩
      · rw [List.getElem?_eq_none (by simp; omega)] at e; cases e
  refine ⟨?_, fun i a e => ?_, fun i j a b ei ej hij g hg1 hg2 => ?_, fun a ha => ?_, fun a ha => ?_⟩
  · rw [List.length_append, hcells_append]
    simpa [hcells] using hown
  · rcases hget i a e with ⟨_, e'⟩ | ⟨_, rfl⟩
    · exact ownsRow_keep (hb.rows i a e') hc (fun g hg f => book_ne hb.book (hb.rows i a e') f hg)
    · exact ownsRow_keep hr hc (fun g hg f => book_ne hb.book hr f hg)
  · rcases hget i a ei with ⟨_, ei'⟩ | ⟨hi, rfl⟩
    · rcases hget j b ej with ⟨_, ej'⟩ | ⟨hj, rfl⟩
      · exact hb.apart i j a b ei' ej' hij g hg1 hg2
      · exact hfar i a ei' g hg1 hg2
    · rcases hget j b ej with ⟨_, ej'⟩ | ⟨hj, rfl⟩
      · exact hfar j b ej' g hg2 hg1
      · omega
  · rcases List.mem_append.1 ha with e | e
    · exact hb.ok a e
    · simp at e; subst e; exact hok
  · rcases List.mem_append.1 ha with e | e
    · exact hb.small a e
    · simp at e; subst e; exact hn
end Go.Proofs.Ytefplppgkoanbaa.Bk
namespace Go.Proofs.Ytefplppgkoanbaa
open Go.RowKit
set_option linter.unusedVariables false
set_option linter.unusedSimpArgs false
variable {Fi : World → Nat → Nat → (Nat → Prop) → Nat → Bool → List Nat → Prop}
/-- A filter and the document's. -/
structure Pq (Fi : World → Nat → Nat → (Nat → Prop) → Nat → Bool → List Nat → Prop) (w : World) (B : Nat) (d : Int) (back : Bool) (pv : Value) (r : Nat) (u : Value) (F : Nat → Prop) (all : List Nat) : Prop where
  rf : Rf19 w B r d back u all
  yes : goodD d → ∃ a, pv = .pointer (some ⟨a, 0, none⟩) ∧ Fi w B a F d.toNat back all
  no : ¬ goodD d → pv = .pointer none
  lt : ∀ z, F z → B ≤ z ∧ z < w.heap.size
  sep : ∀ z, F z → z ≠ r ∧ u.ownBlock ≠ some z
  dig : Rc.Dig all
/-- All blocks of both. -/
def RqF (r : Nat) (u : Value) (F : Nat → Prop) (z : Nat) : Prop := F z ∨ z = r ∨ u.ownBlock = some z
theorem Pq.keep (S : DeltaSpec Fi) {w w' : World} {B : Nat} {d : Int} {back : Bool} {pv : Value} {r : Nat} {u : Value} {F : Nat → Prop} {all : List Nat} {T : Nat → Prop} (h : Pq Fi w B d back pv r u F all) (hc : Chg T w w') (hT : ∀ z, RqF r u F z → ¬ T z) : Pq Fi w' B d back pv r u F all :=
  ⟨h.rf.keep hc (hT r (.inr (.inl rfl))) (fun g e => hT g (.inr (.inr e))), fun hg => by
    obtain ⟨a, e, hf⟩ := h.yes hg
    exact ⟨a, e, S.keep hf hc (fun z f => hT z (.inl f))⟩, h.no, fun z f => ⟨(h.lt z f).1, Nat.lt_of_lt_of_le (h.lt z f).2 hc.size⟩, h.sep, h.dig⟩
theorem Pq.new (S : DeltaSpec Fi) {w w' : World} {B : Nat} {d : Int} {back : Bool} {pv : Value} {r : Nat} {u : Value} {F : Nat → Prop} {all : List Nat} (h : Pq Fi w B d back pv r u F all) (hc : Chg (fun _ => False) w w') : Pq Fi w' B d back pv r u F all := h.keep S hc (fun _ _ f => f)
theorem Pq.rlt {w : World} {B : Nat} {d : Int} {back : Bool} {pv : Value} {r : Nat} {u : Value} {F : Nat → Prop} {all : List Nat} (h : Pq Fi w B d back pv r u F all) {z : Nat} (hz : RqF r u F z) : B ≤ z ∧ z < w.heap.size := by
  rcases hz with f | rfl | e
  · exact h.lt z f
  · exact ⟨h.rf.lo, lt_of_blk h.rf.blk⟩
  · exact h.rf.own.lt z e
/-- All of it. -/
structure Dxs (Fi : World → Nat → Nat → (Nat → Prop) → Nat → Bool → List Nat → Prop) (w0 w : World) (d1 : Int) (b1 : Bool) (p1 : Value) (r1 : Nat) (u1 : Value) (F1 : Nat → Prop) (l1 : List Nat) (d2 : Int) (b2 : Bool) (p2 : Value) (r2 : Nat) (u2 : Value) (F2 : Nat → Prop) (l2 : List Nat) (bv : Value) (hs : List Bk.Hd) (k : Nat) : Prop where
  chg : Chg (fun _ => False) w0 w
  q1 : Pq Fi w w0.heap.size d1 b1 p1 r1 u1 F1 l1
  q2 : Pq Fi w w0.heap.size d2 b2 p2 r2 u2 F2 l2
  d12 : ∀ z, RqF r1 u1 F1 z → ¬ RqF r2 u2 F2 z
  bk : Bk.Bk w0.heap.size w bv hs
  bd : ∀ (j : Nat) (a : Bk.Hd), hs[j]? = some a → ∀ g, a.v.ownBlock = some g → ¬ RqF r1 u1 F1 g ∧ ¬ RqF r2 u2 F2 g
  bb : ∀ g, bv.ownBlock = some g → ¬ RqF r1 u1 F1 g ∧ ¬ RqF r2 u2 F2 g
  n1 : l1.length ≤ k * 1048576
  n2 : l2.length ≤ k * 1048576
  nh : hs.length ≤ k
theorem Dxs.new (S : DeltaSpec Fi) {w0 w w' : World} {d1 d2 : Int} {b1 b2 : Bool} {p1 p2 u1 u2 bv : Value} {r1 r2 k : Nat} {F1 F2 : Nat → Prop} {l1 l2 : List Nat} {hs : List Bk.Hd} (h : Dxs Fi w0 w d1 b1 p1 r1 u1 F1 l1 d2 b2 p2 r2 u2 F2 l2 bv hs k) (hc : Chg (fun _ => False) w w') : Dxs Fi w0 w' d1 b1 p1 r1 u1 F1 l1 d2 b2 p2 r2 u2 F2 l2 bv hs k :=
  ⟨chg_then h.chg hc, h.q1.new S hc, h.q2.new S hc, h.d12, h.bk.new hc, h.bd, h.bb, h.n1, h.n2, h.nh⟩
theorem Dxs.swap {w0 w : World} {d1 d2 : Int} {b1 b2 : Bool} {p1 p2 u1 u2 bv : Value} {r1 r2 k : Nat} {F1 F2 : Nat → Prop} {l1 l2 : List Nat} {hs : List Bk.Hd} (h : Dxs Fi w0 w d1 b1 p1 r1 u1 F1 l1 d2 b2 p2 r2 u2 F2 l2 bv hs k) : Dxs Fi w0 w d2 b2 p2 r2 u2 F2 l2 d1 b1 p1 r1 u1 F1 l1 bv hs k :=
  ⟨h.chg, h.q2, h.q1, fun z a b => h.d12 z b a, h.bk, fun j a e g f => ⟨(h.bd j a e g f).2, (h.bd j a e g f).1⟩, fun g f => ⟨(h.bb g f).2, (h.bb g f).1⟩, h.n2, h.n1, h.nh⟩
theorem Dxs.more {w0 w : World} {d1 d2 : Int} {b1 b2 : Bool} {p1 p2 u1 u2 bv : Value} {r1 r2 k : Nat} {F1 F2 : Nat → Prop} {l1 l2 : List Nat} {hs : List Bk.Hd} (h : Dxs Fi w0 w d1 b1 p1 r1 u1 F1 l1 d2 b2 p2 r2 u2 F2 l2 bv hs k) : Dxs Fi w0 w d1 b1 p1 r1 u1 F1 l1 d2 b2 p2 r2 u2 F2 l2 bv hs (k + 1) :=
  ⟨h.chg, h.q1, h.q2, h.d12, h.bk, h.bd, h.bb, Nat.le_trans h.n1 (Nat.mul_le_mul_right _ (Nat.le_succ k)), Nat.le_trans h.n2 (Nat.mul_le_mul_right _ (Nat.le_succ k)), by have := h.nh; omega⟩
/-- What lies apart has changed. -/
theorem Dxs.keep (S : DeltaSpec Fi) {w0 w w' : World} {d1 d2 : Int} {b1 b2 : Bool} {p1 p2 u1 u2 bv : Value} {r1 r2 k : Nat} {F1 F2 : Nat → Prop} {l1 l2 : List Nat} {hs : List Bk.Hd} {T : Nat → Prop} (h : Dxs Fi w0 w d1 b1 p1 r1 u1 F1 l1 d2 b2 p2 r2 u2 F2 l2 bv hs k) (hc : Chg T w w') (h0 : ∀ z, T z → w0.heap.size ≤ z) (h1 : ∀ z, T z → ¬ RqF r1 u1 F1 z) (h2 : ∀ z, T z → ¬ RqF r2 u2 F2 z) (h3 : ∀ z, T z → bv.ownBlock ≠ some z) (h4 : ∀ z, T z → ∀ (j : Nat) (a : Bk.Hd), hs[j]? = some a → a.v.ownBlock ≠ some z) : Dxs Fi w0 w' d1 b1 p1 r1 u1 F1 l1 d2 b2 p2 r2 u2 F2 l2 bv hs k :=
  ⟨h.chg.trans hc (fun z f => .inr (h0 z f)), h.q1.keep S hc (fun z f t => h1 z t f), h.q2.keep S hc (fun z f t => h2 z t f), h.d12, ⟨Bk.own_keep h.bk.book hc (fun g e t => h3 g t e), Bk.rows_keep h.bk.rows hc (fun i a e g hg t => h4 g t i a e hg), h.bk.apart, h.bk.ok, h.bk.small⟩, h.bd, h.bb, h.n1, h.n2, h.nh⟩
/-- The first pair has changed (by its two calls). -/
theorem Dxs.turn (S : DeltaSpec Fi) {w0 w w' : World} {d1 d2 : Int} {b1 b2 : Bool} {p1 p2 u1 u1' u2 bv : Value} {r1 r2 k : Nat} {F1 F1' F2 : Nat → Prop} {l1 l1' l2 : List Nat} {hs : List Bk.Hd} (h : Dxs Fi w0 w d1 b1 p1 r1 u1 F1 l1 d2 b2 p2 r2 u2 F2 l2 bv hs k)
    (hc : Chg (RqF r1 u1 F1) w w') (hq : Pq Fi w' w0.heap.size d1 b1 p1 r1 u1' F1' l1') (hR : ∀ z, RqF r1 u1' F1' z → RqF r1 u1 F1 z ∨ w.heap.size ≤ z) (hl : l1'.length ≤ (k + 1) * 1048576) : Dxs Fi w0 w' d1 b1 p1 r1 u1' F1' l1' d2 b2 p2 r2 u2 F2 l2 bv hs (k + 1) := by
  have kb : ∀ g, bv.ownBlock = some g → g < w.heap.size := fun g e => by
    obtain ⟨cur, hb⟩ := Bk.own_blk h.bk.book e
    exact lt_of_blk hb
  refine ⟨h.chg.trans hc (fun z f => .inr (h.q1.rlt f).1), hq, h.q2.keep S hc (fun z f g => h.d12 z g f), fun z f g => ?_, ⟨Bk.own_keep h.bk.book hc (fun g e => (h.bb g e).1), Bk.rows_keep h.bk.rows hc (fun i a e g hg => (h.bd i a e g hg).1), h.bk.apart, h.bk.ok, h.bk.small⟩, fun j a e g hg => ⟨fun f => ?_, (h.bd j a e g hg).2⟩, fun g e => ⟨fun f => ?_, (h.bb g e).2⟩, hl, Nat.le_trans h.n2 (Nat.mul_le_mul_right _ (Nat.le_succ k)), by have := h.nh; omega⟩
  · rcases hR z f with f | f
    · exact h.d12 z f g
    · have := (h.q2.rlt g).2
      omega
  · rcases hR g f with f | f
    · exact (h.bd j a e g hg).1 f
    · have := ((h.bk.rows j a e).lt hg).2
      omega
  · rcases hR g f with f | f
    · exact (h.bb g e).1 f
    · have := kb g e
      omega
/-- One list more in the book: its row is new; ahead of the append. -/
theorem Dxs.push (S : DeltaSpec Fi) {w0 w2 w3 : World} {d1 d2 : Int} {b1 b2 : Bool} {p1 p2 u1 u2 bv bv' : Value} {r1 r2 k : Nat} {F1 F2 : Nat → Prop} {l1 l2 : List Nat} {hs : List Bk.Hd} {hd : Bk.Hd} {o : Obj} (h : Dxs Fi w0 w2 d1 b1 p1 r1 u1 F1 l1 d2 b2 p2 r2 u2 F2 l2 bv hs k) (hnh : hs.length + 1 ≤ k)
    (hr : Bk.Row w0.heap.size w2 hd) (hfar : ∀ (i : Nat) (a : Bk.Hd), hs[i]? = some a → ∀ g, a.v.ownBlock = some g → hd.v.ownBlock ≠ some g) (hfr : ∀ g, hd.v.ownBlock = some g → ¬ RqF r1 u1 F1 g ∧ ¬ RqF r2 u2 F2 g) (hok : hd.ok) (hn : hd.n ≤ 140737488351232)
    (hown : w3.ownsRow w0.heap.size 49 5 bv' (hs.length + 1) (Bk.hcells hs ++ hd.cells)) (hg : (w2.alloc o).grownBy w3 bv.ownBlock) (hm : Moved (w2.alloc o) bv bv') : Dxs Fi w0 w3 d1 b1 p1 r1 u1 F1 l1 d2 b2 p2 r2 u2 F2 l2 bv' (hs ++ [hd]) k := by
  have hc : Chg (fun z => bv.ownBlock = some z) w2 w3 := ((Chg.refl _ w2).alloc o).grown hg (fun z e => .inl e)
  have hsz : w2.heap.size ≤ (w2.alloc o).heap.size := by simp
  refine ⟨h.chg.trans hc (fun z e => .inr ?_), h.q1.keep S hc (fun z f e => (h.bb z e).1 f), h.q2.keep S hc (fun z f e => (h.bb z e).2 f), h.d12, Bk.Bk.push' h.bk hr hfar hok hn hown hg, fun j a e g hgg => ?_, fun g e => ?_, h.n1, h.n2, by simp; omega⟩
  · have hbo := h.bk.book
    rcases hbo.2 with ⟨rfl, _⟩ | ⟨g', cap, cur, rfl, hb, _⟩
    · simp [Value.ownBlock] at e
    · simp [Value.ownBlock] at e
      omega
  · by_cases hj : j < hs.length
    · rw [List.getElem?_append_left hj] at e
      exact h.bd j a e g hgg
    · have h1 := (List.getElem?_eq_some_iff.1 e).1
      simp at h1
      obtain rfl : j = hs.length := by omega
      simp at e
      subst e
      exact hfr g hgg
  · rcases hm g e with e | e
    · exact h.bb g e
    · exact ⟨fun f => by have := (h.q1.rlt f).2; omega, fun f => by have := (h.q2.rlt f).2; omega⟩
end Go.Proofs.Ytefplppgkoanbaa
