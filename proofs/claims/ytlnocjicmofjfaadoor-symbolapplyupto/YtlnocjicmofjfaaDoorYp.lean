/- Two windows side by side, a state, and the book of answered lists; of no statement by themselves. -/
import Derived.Test.YtlnocjicmofjfaaDoorYx
import Derived.Test.YtlnocjicmofjfaaDoorBoundE
namespace Go.Proofs.YtlnocjicmofjfaaDoor.Bk
open Go.RowKit
theorem Bk.push' {B : Nat} {w2 w3 : World} {lv lv' : Value} {hs : List Hd} {h : Hd} {o : Obj} (hb : Bk B w2 lv hs) (hr : Row B w2 h) (hfar : ∀ (i : Nat) (a : Hd), hs[i]? = some a → ∀ g, a.v.ownBlock = some g → h.v.ownBlock ≠ some g) (hok : h.ok) (hn : h.n ≤ 1099511627776)
    (hown : w3.ownsRow B 61 5 lv' (hs.length + 1) (hcells hs ++ h.cells)) (hg : (w2.alloc o).grownBy w3 lv.ownBlock) : Bk B w3 lv' (hs ++ [h]) := by
  have hc : Chg (fun k => lv.ownBlock = some k) w2 w3 := ((Chg.refl _ w2).alloc o).grown hg (fun k e => .inl e)
  have hget : ∀ (i : Nat) (a : Hd), (hs ++ [h])[i]? = some a → i < hs.length ∧ hs[i]? = some a ∨ i = hs.length ∧ a = h := fun i a e => by
    by_cases hi : i < hs.length
    · rw [List.getElem?_append_left hi] at e; exact .inl ⟨hi, e⟩
    · rw [List.getElem?_append_right (by omega)] at e
      by_cases hi2 : i = hs.length
      · subst hi2; simp at e; exact .inr ⟨rfl, e.symm⟩
      · rw [List.getElem?_eq_none (by simp; omega)] at e; cases e
  refine ⟨?_, fun i a e => ?_, fun i j a b ei ej hij g hg1 hg2 => ?_, fun a ha => ?_, fun a ha => ?_⟩
  · rw [List.length_append, hcells_append]
    simpa [hcells] using hown
  · rcases hget i a e with ⟨_, e'⟩ | ⟨_, rfl⟩
    · exact ownsRow_keep (hb.rows i a e') hc (fun g hg f => book_ne hb.book (hb.rows i a e') f hg)
    · exact ownsRow_keep hr hc (fun g hg f => book_ne hb.book hr f hg)
  · rcases hget i a ei with ⟨_, ei'⟩ | ⟨hi, rfl⟩
    · rcases hget j b ej with ⟨_, ej'⟩ | ⟨hj, rfl⟩
      · exact hb.apart i j a b ei' ej' hij g hg1 hg2
      · exact hfar i a ei' g hg1 hg2
    · rcases hget j b ej with ⟨_, ej'⟩ | ⟨hj, rfl⟩
      · exact hfar j b ej' g hg2 hg1
      · omega
  · rcases List.mem_append.1 ha with e | e
    · exact hb.ok a e
    · simp at e; subst e; exact hok
  · rcases List.mem_append.1 ha with e | e
    · exact hb.small a e
    · simp at e; subst e; exact hn
end Go.Proofs.YtlnocjicmofjfaaDoor.Bk
namespace Go.Proofs.YtlnocjicmofjfaaDoor
open Go.RowKit
open St12 Sy13
set_option linter.unusedVariables false
set_option linter.unusedSimpArgs false

variable {Win : World → Nat → Nat → Value → Nat → List Nat → Prop}
theorem bk_keep {B : Nat} {w w' : World} {lv : Value} {hs : List Bk.Hd} {S : Nat → Prop} (h : Bk.Bk B w lv hs) (hc : Chg S w w') (h1 : ∀ g, lv.ownBlock = some g → ¬ S g) (h2 : ∀ (i : Nat) (a : Bk.Hd), hs[i]? = some a → ∀ g, a.v.ownBlock = some g → ¬ S g) : Bk.Bk B w' lv hs :=
  ⟨Bk.own_keep h.book hc h1, Bk.rows_keep h.rows hc h2, h.apart, h.ok, h.small⟩

structure Ap (Win : World → Nat → Nat → Value → Nat → List Nat → Prop) (w0 w : World) (a n : Nat) (v : Value) (wb : List Nat) (r : Nat) (rv : Value) (rb : List Nat) (g : Nat) (s : Stt) (bv : Value) (hs : List Bk.Hd) : Prop where
  chg : Chg (fun _ => False) w0 w
  win : Win w w0.heap.size a v n wb
  rw : Rw w w0.heap.size r rv n rb
  far : ∀ z, Foot a v z → ¬ Foot r rv z
  st : w.heap[g]? = some (.cells (stc s) 52 (0, 0))
  hg : w0.heap.size ≤ g
  book : Bk.Bk w0.heap.size w bv hs
  bdis : ∀ (j : Nat) (h : Bk.Hd), hs[j]? = some h → ∀ z, h.v.ownBlock = some z → ¬ Foot a v z ∧ ¬ Foot r rv z
/-- A list that none of them has. -/
structure Lo (w0 w : World) (a : Nat) (v : Value) (r : Nat) (rv : Value) (hs : List Bk.Hd) (ov : Value) (m : Nat) (xs : List Nat) : Prop where
  own : w.ownsRow w0.heap.size 5 1 ov m (ins .u8 (nums xs))
  items : ∀ z, ov.ownBlock = some z → ¬ Foot a v z ∧ ¬ Foot r rv z
  rows : ∀ (j : Nat) (h : Bk.Hd), hs[j]? = some h → ∀ z, h.v.ownBlock = some z → ov.ownBlock ≠ some z
theorem Ap.new (S : WinSpec Win) {w0 w w' : World} {a n : Nat} {v : Value} {wb : List Nat} {r : Nat} {rv : Value} {rb : List Nat} {g : Nat} {s : Stt} {bv : Value} {hs : List Bk.Hd} (h : Ap Win w0 w a n v wb r rv rb g s bv hs) (hc : Chg (fun _ => False) w w') : Ap Win w0 w' a n v wb r rv rb g s bv hs :=
  ⟨chg_then h.chg hc, S.new h.win hc, h.rw.new hc, h.far, blk_keep h.st hc (fun f => f), h.hg, h.book.new hc, h.bdis⟩
theorem Lo.new {w0 w w' : World} {a : Nat} {v : Value} {r : Nat} {rv : Value} {hs : List Bk.Hd} {ov : Value} {m : Nat} {xs : List Nat} (h : Lo w0 w a v r rv hs ov m xs) (hc : Chg (fun _ => False) w w') : Lo w0 w' a v r rv hs ov m xs := ⟨ownsRow_keep h.own hc (fun _ _ f => f), h.items, h.rows⟩
theorem book_off {w0 w : World} {bv : Value} {hs : List Bk.Hd} (h : Bk.Bk w0.heap.size w bv hs) {b : Nat} {cs : Array Value} {t' : TypeId} {fr : Nat × Nat} (hb : w.heap[b]? = some (.cells cs t' fr)) (h1 : t' ≠ 61) : ∀ z, bv.ownBlock = some z → ¬ z = b := fun z e hz => by
  subst hz
  obtain ⟨c, hc⟩ := Bk.own_blk h.book e
  rw [hb] at hc
  simp only [Option.some.injEq, Obj.cells.injEq] at hc
  exact h1 hc.2.1
theorem row_off {w0 w : World} {bv : Value} {hs : List Bk.Hd} (h : Bk.Bk w0.heap.size w bv hs) {b : Nat} {cs : Array Value} {t' : TypeId} {fr : Nat × Nat} (hb : w.heap[b]? = some (.cells cs t' fr)) (h1 : t' ≠ 5) (j : Nat) (a : Bk.Hd) (hj : hs[j]? = some a) : ∀ z, a.v.ownBlock = some z → ¬ z = b := fun z e => own_off (h.rows j a hj) hb h1 z e
/-- A block of another kind is turned. -/
theorem Ap.store (S : WinSpec Win) {w0 w w' : World} {a n : Nat} {v : Value} {wb : List Nat} {r : Nat} {rv : Value} {rb : List Nat} {g : Nat} {s s' : Stt} {bv : Value} {hs : List Bk.Hd} (h : Ap Win w0 w a n v wb r rv rb g s bv hs) (hc : Chg (fun z => z = g) w w') (hb : w'.heap[g]? = some (.cells (stc s') 52 (0, 0))) : Ap Win w0 w' a n v wb r rv rb g s' bv hs :=
  ⟨h.chg.trans hc (fun z e => .inr (by rw [e]; exact h.hg)), S.keep h.win hc (fun z f e => S.like.off h.win h.st (by decide) (by decide) (e ▸ f)), h.rw.keep hc (fun z f e => rw_like.off h.rw h.st (by decide) (by decide) (e ▸ f)), h.far, hb, h.hg, bk_keep h.book hc (fun z e f => book_off h.book h.st (by decide) z e f) (fun j x hj z e f => row_off h.book h.st (by decide) j x hj z e f), h.bdis⟩
theorem Lo.off {w0 w w' : World} {a : Nat} {v : Value} {r : Nat} {rv : Value} {hs : List Bk.Hd} {ov : Value} {m : Nat} {xs : List Nat} (h : Lo w0 w a v r rv hs ov m xs) {b : Nat} {cs : Array Value} {t' : TypeId} {fr : Nat × Nat} (hb : w.heap[b]? = some (.cells cs t' fr)) (h1 : t' ≠ 5) (hc : Chg (fun z => z = b) w w') : Lo w0 w' a v r rv hs ov m xs := ⟨ownsRow_keep h.own hc (fun z e f => own_off h.own hb h1 z e f), h.items, h.rows⟩
/-- The program's symbol. -/
theorem Ap.prog (S : WinSpec Win) {w0 w w' : World} {a n : Nat} {v : Value} {wb : List Nat} {r : Nat} {rv : Value} {rb : List Nat} {g : Nat} {s : Stt} {bv : Value} {hs : List Bk.Hd} (h : Ap Win w0 w a n v wb r rv rb g s bv hs) {wb' xs : List Nat} {ov v' : Value}
    (hm : Made Win w0.heap.size w.heap.size a n wb' xs ov v' w') (hc : Chg (Foot a v) w w') (hmv : Moved w v v') : Ap Win w0 w' a n v' wb' r rv rb g s bv hs ∧ Lo w0 w' a v' r rv hs ov xs.length xs := by
  have hf : ∀ z, Foot a v' z → Foot a v z ∨ w.heap.size ≤ z := fun z f => by
    rcases f with f | f
    · exact .inl (.inl f)
    · rcases hmv z f with f | f
      · exact .inl (.inr f)
      · exact .inr f
  refine ⟨⟨h.chg.trans hc (fun z f => .inr (S.lt h.win z f).1), hm.win, h.rw.keep hc (fun z f e => h.far z e f), fun z f k => ?_, blk_keep h.st hc (S.like.off h.win h.st (by decide) (by decide)), h.hg, bk_keep h.book hc (fun z e f => ?_) (fun j x hj z e f => (h.bdis j x hj z e).1 f), fun j x hj z e => ⟨fun f => ?_, (h.bdis j x hj z e).2⟩⟩, ⟨owns_base hm.out h.chg.size, fun z e => ⟨hm.apart z e, fun f => ?_⟩, fun j x hj z e k => ?_⟩⟩
  · rcases hf z f with f | f
    · exact h.far z f k
    · have := (h.rw.lt k).2
      omega
  · obtain ⟨c, hcb⟩ := Bk.own_blk h.book.book e
    exact S.like.off h.win hcb (by decide) (by decide) f
  · rcases hf z f with f | f
    · exact (h.bdis j x hj z e).1 f
    · have := ((h.book.rows j x hj).lt e).2
      omega
  · have k1 := (World.ownsRow.lt hm.out z e).1
    have k2 := (h.rw.lt f).2
    omega
  · have k1 := (World.ownsRow.lt hm.out z k).1
    have k2 := ((h.book.rows j x hj).lt e).2
    omega
/-- The document's symbol. -/
theorem Ap.ref (S : WinSpec Win) {w0 w w' : World} {a n : Nat} {v : Value} {wb : List Nat} {r : Nat} {rv : Value} {rb : List Nat} {g : Nat} {s : Stt} {bv : Value} {hs : List Bk.Hd} (h : Ap Win w0 w a n v wb r rv rb g s bv hs) {rb' xs ys : List Nat} {ov pv rv' : Value} {m : Nat} (hl : Lo w0 w a v r rv hs pv m ys)
    (hm : Made Rw w0.heap.size w.heap.size r n rb' xs ov rv' w') (hc : Chg (Foot r rv) w w') (hmv : Moved w rv rv') : Ap Win w0 w' a n v wb r rv' rb' g s bv hs ∧ Lo w0 w' a v r rv' hs pv m ys := by
  have hf : ∀ z, Foot r rv' z → Foot r rv z ∨ w.heap.size ≤ z := fun z f => by
    rcases f with f | f
    · exact .inl (.inl f)
    · rcases hmv z f with f | f
      · exact .inl (.inr f)
      · exact .inr f
  refine ⟨⟨h.chg.trans hc (fun z f => .inr (h.rw.lt f).1), S.keep h.win hc (fun z f e => h.far z f e), hm.win, fun z f k => ?_, blk_keep h.st hc (rw_like.off h.rw h.st (by decide) (by decide)), h.hg, bk_keep h.book hc (fun z e f => ?_) (fun j x hj z e f => (h.bdis j x hj z e).2 f), fun j x hj z e => ⟨(h.bdis j x hj z e).1, fun f => ?_⟩⟩, ⟨ownsRow_keep hl.own hc (fun z e f => (hl.items z e).2 f), fun z e => ⟨(hl.items z e).1, fun f => ?_⟩, hl.rows⟩⟩
  · rcases hf z k with k | k
    · exact h.far z f k
    · have := (S.lt h.win z f).2
      omega
  · obtain ⟨c, hcb⟩ := Bk.own_blk h.book.book e
    exact rw_like.off h.rw hcb (by decide) (by decide) f
  · rcases hf z f with f | f
    · exact (h.bdis j x hj z e).2 f
    · have := ((h.book.rows j x hj).lt e).2
      omega
  · rcases hf z f with f | f
    · exact (hl.items z e).2 f
    · have := (World.ownsRow.lt hl.own z e).2
      omega
/-- The book has one list more. -/
theorem Ap.hold (S : WinSpec Win) {w0 w w2 w3 : World} {a n : Nat} {v : Value} {wb : List Nat} {r : Nat} {rv : Value} {rb : List Nat} {g : Nat} {s : Stt} {bv v' v1 : Value} {hs : List Bk.Hd} {m : Nat} {h' : Bk.Hd} {o : Obj} {xs : List Nat} (h : Ap Win w0 w a n v wb r rv rb g s bv hs) (hl : Lo w0 w a v r rv hs v1 m xs) (c2 : Chg (fun z => v1.ownBlock = some z) w w2) (hm : Moved w v1 h'.v)
    (hr : Bk.Row w0.heap.size w2 h') (hok : h'.ok) (hn : h'.n ≤ 1099511627776) (hown : w3.ownsRow w0.heap.size 61 5 v' (hs.length + 1) (Bk.hcells hs ++ h'.cells)) (hg : (w2.alloc o).grownBy w3 bv.ownBlock) : Ap Win w0 w3 a n v wb r rv rb g s v' (hs ++ [h']) := by
  have uty : ∀ {z}, v1.ownBlock = some z → ∃ cur, w.heap[z]? = some (.cells cur 5 (0, 0)) := fun e => owns_blk hl.own e
  have h2 : Ap Win w0 w2 a n v wb r rv rb g s bv hs := by
    refine ⟨h.chg.trans c2 (fun z e => .inr (hl.own.lt z e).1), S.keep h.win c2 (fun z f e => (hl.items z e).1 f), h.rw.keep c2 (fun z f e => (hl.items z e).2 f), h.far, blk_keep h.st c2 (fun e => ?_), h.hg, bk_keep h.book c2 (fun z e f => ?_) (fun j x hj z e f => hl.rows j x hj z e f), h.bdis⟩
    · obtain ⟨cur, hcur⟩ := uty e
      exact ty_ne hcur h.st (by decide)
    · obtain ⟨cur, hcur⟩ := uty f
      exact book_off h.book hcur (by decide) z e rfl
  have hnew : ∀ z, h'.v.ownBlock = some z → v1.ownBlock = some z ∨ w.heap.size ≤ z := hm
  have c3 : Chg (fun k => bv.ownBlock = some k) w2 w3 := ((Chg.refl _ w2).alloc o).grown hg (fun k e => .inl e)
  have bty : ∀ {z}, bv.ownBlock = some z → ∃ cur, w2.heap[z]? = some (.cells cur 61 (0, 0)) := fun e => Bk.own_blk h2.book.book e
  refine ⟨h2.chg.trans c3 (fun z e => .inr (h2.book.book.lt z e).1), S.keep h2.win c3 (fun z f e => ?_), h2.rw.keep c3 (fun z f e => ?_), h.far, blk_keep h2.st c3 (fun e => ?_), h.hg, h2.book.push' hr (fun j x hj z e e2 => ?_) hok hn hown hg, fun j x hj z e => ?_⟩
  · obtain ⟨cur, hcur⟩ := bty e
    exact S.like.off h2.win hcur (by decide) (by decide) f
  · obtain ⟨cur, hcur⟩ := bty e
    exact rw_like.off h2.rw hcur (by decide) (by decide) f
  · obtain ⟨cur, hcur⟩ := bty e
    exact ty_ne hcur h2.st (by decide)
  · rcases hnew z e2 with q | q
    · exact hl.rows j x hj z e q
    · have := ((h.book.rows j x hj).lt e).2
      omega
  · by_cases hj2 : j < hs.length
    · rw [List.getElem?_append_left hj2] at hj
      exact h.bdis j x hj z e
    · rw [List.getElem?_append_right (by omega)] at hj
      have : j - hs.length = 0 := by
        rcases Nat.eq_zero_or_pos (j - hs.length) with q | q
        · exact q
        · rw [List.getElem?_eq_none (by simp; omega)] at hj; cases hj
      rw [this] at hj
      simp at hj
      subst hj
      rcases hnew z e with q | q
      · exact hl.items z q
      · exact ⟨fun f => by have := (S.lt h.win z f).2; omega, fun f => by have := (h.rw.lt f).2; omega⟩
end Go.Proofs.YtlnocjicmofjfaaDoor
