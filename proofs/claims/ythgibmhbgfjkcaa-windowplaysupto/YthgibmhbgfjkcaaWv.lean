/- Windows in pairs, with the book of answered lists: definitions and laws; of no statement by themselves. -/
import Derived.Test.YthgibmhbgfjkcaaWq
import Derived.Test.YthgibmhbgfjkcaaKeep
namespace Go.Proofs.Ythgibmhbgfjkcaa.Bk
open Go.RowKit
theorem Bk.push' {B : Nat} {w2 w3 : World} {lv lv' : Value} {hs : List Hd} {h : Hd} {o : Obj} (hb : Bk B w2 lv hs) (hr : Row B w2 h) (hfar : ∀ (i : Nat) (a : Hd), hs[i]? = some a → ∀ g, a.v.ownBlock = some g → h.v.ownBlock ≠ some g) (hok : h.ok) (hn : h.n ≤ 1099511627776)
    (hown : w3.ownsRow B 68 5 lv' (hs.length + 1) (hcells hs ++ h.cells)) (hg : (w2.alloc o).grownBy w3 lv.ownBlock) : Bk B w3 lv' (hs ++ [h]) := by
  have hc : Chg (fun k => lv.ownBlock = some k) w2 w3 := ((Chg.refl _ w2).alloc o).grown hg (fun k e => .inl e)
  have hget : ∀ (i : Nat) (a : Hd), (hs ++ [h])[i]? = some a → i < hs.length ∧ hs[i]? = some a ∨ i = hs.length ∧ a = h := fun i a e => by
    by_cases hi : i < hs.length
    · rw [List.getElem?_append_left hi] at e; exact .inl ⟨hi, e⟩
    · rw [List.getElem?_append_right (by omega)] at e
      by_cases hi2 : i = hs.length
      · subst hi2; simp at e; exact .inr ⟨rfl, e.symm⟩
      · rw [List.getElem?_eq_none (by simp; omega)] at e; cases e
  refine ⟨?_, fun i a e => ?_, fun i j a b ei ej hij g hg1 hg2 => ?_, fun a ha => ?_, fun a ha => ?_⟩
  · rw [List.length_append, hcells_append]
    simpa [hcells] using hown
  · rcases hget i a e with ⟨_, e'⟩ | ⟨_, rfl⟩
    · exact ownsRow_keep (hb.rows i a e') hc (fun g hg f => book_ne hb.book (hb.rows i a e') f hg)
    · exact ownsRow_keep hr hc (fun g hg f => book_ne hb.book hr f hg)
  · rcases hget i a ei with ⟨_, ei'⟩ | ⟨hi, rfl⟩
    · rcases hget j b ej with ⟨_, ej'⟩ | ⟨hj, rfl⟩
      · exact hb.apart i j a b ei' ej' hij g hg1 hg2
      · exact hfar i a ei' g hg1 hg2
    · rcases hget j b ej with ⟨_, ej'⟩ | ⟨hj, rfl⟩
      · exact hfar j b ej' g hg2 hg1
      · omega
  · rcases List.mem_append.1 ha with e | e
    · exact hb.ok a e
    · simp at e; subst e; exact hok
  · rcases List.mem_append.1 ha with e | e
    · exact hb.small a e
    · simp at e; subst e; exact hn
end Go.Proofs.Ythgibmhbgfjkcaa.Bk
namespace Go.Proofs.Ythgibmhbgfjkcaa
open Go.RowKit
set_option linter.unusedVariables false

variable {Win : World → Nat → Nat → Value → Nat → List Nat → Prop}
theorem bk_keep {B : Nat} {w w' : World} {lv : Value} {hs : List Bk.Hd} {S : Nat → Prop} (h : Bk.Bk B w lv hs) (hc : Chg S w w') (h1 : ∀ g, lv.ownBlock = some g → ¬ S g) (h2 : ∀ (i : Nat) (a : Bk.Hd), hs[i]? = some a → ∀ g, a.v.ownBlock = some g → ¬ S g) : Bk.Bk B w' lv hs :=
  ⟨Bk.own_keep h.book hc h1, Bk.rows_keep h.rows hc h2, h.apart, h.ok, h.small⟩

/-- All of it. -/
structure Pl (Win : World → Nat → Nat → Value → Nat → List Nat → Prop) (w0 w : World) (lv : Value) (its : List Pr) (bv : Value) (hs : List Bk.Hd) : Prop where
  chg : Chg (fun _ => False) w0 w
  row : w.ownsRow w0.heap.size 48 2 lv its.length (its.flatMap Pr.cells)
  good : ∀ i (h : i < its.length), Good Win w w0.heap.size its[i]
  dis : ∀ i j (hi : i < its.length) (hj : j < its.length), i ≠ j → ∀ z, Fq its[i] z → ¬ Fq its[j] z
  most : its.length ≤ 5
  book : Bk.Bk w0.heap.size w bv hs
  bdis : ∀ i (hi : i < its.length), ∀ (j : Nat) (a : Bk.Hd), hs[j]? = some a → ∀ g, a.v.ownBlock = some g → ¬ Fq its[i] g
theorem Pl.new (S : WinSpec Win) {w0 w w' : World} {lv bv : Value} {its : List Pr} {hs : List Bk.Hd} (h : Pl Win w0 w lv its bv hs) (hc : Chg (fun _ => False) w w') : Pl Win w0 w' lv its bv hs :=
  ⟨chg_then h.chg hc, Bk.own_keep h.row hc (fun _ _ f => f), fun i hi => (h.good i hi).new S hc, h.dis, h.most, h.book.new hc, h.bdis⟩
theorem pairs_at : ∀ (xs : List Pr) (k : Nat) (hk : k < xs.length) (j : Nat), j < 2 → (xs.flatMap Pr.cells)[k * 2 + j]? = xs[k].cells[j]?
  | [], k, hk, j, hj => by simp at hk
  | y :: ys, 0, hk, j, hj => by
    rw [List.flatMap_cons, List.getElem?_append_left (by simp [Pr.cells]; omega)]
    simp
  | y :: ys, k + 1, hk, j, hj => by
    rw [List.flatMap_cons, List.getElem?_append_right (by simp [Pr.cells]; omega)]
    have e : (k + 1) * 2 + j - y.cells.length = k * 2 + j := by simp [Pr.cells]; omega
    rw [e]
    exact pairs_at ys k (by simpa using hk) j hj
/-- Where the list lies. -/
theorem Pl.at {w0 w : World} {lv bv : Value} {xs : List Pr} {hs : List Bk.Hd} (h : Pl Win w0 w lv xs bv hs) (h0 : 0 < xs.length) : ∃ g cap, lv = .slice (some ⟨g, 0, none⟩) xs.length cap ∧ xs.length ≤ cap ∧ ∀ k (hk : k < xs.length), w.cell? ⟨g, k * 2, none⟩ = some (.pointer (some ⟨xs[k].a, 0, none⟩)) ∧ w.cell? ⟨g, k * 2 + 1, none⟩ = some (.pointer (some ⟨xs[k].r, 0, none⟩)) := by
  rcases h.row.2 with ⟨_, e⟩ | ⟨g, cap, cur, rfl, _, _, hc, _⟩
  · omega
  · refine ⟨g, cap, rfl, hc, fun k hk => ?_⟩
    have hget := pairs_at xs k hk
    have c0 := h.row.cells (g := g) rfl (k * 2) (.pointer (some ⟨xs[k].a, 0, none⟩)) (by have := hget 0 (by omega); simpa [Pr.cells] using this)
    have c1 := h.row.cells (g := g) rfl (k * 2 + 1) (.pointer (some ⟨xs[k].r, 0, none⟩)) (by have := hget 1 (by omega); simpa [Pr.cells] using this)
    rw [addk, Nat.zero_add] at c0 c1
    exact ⟨c0, c1⟩

/-- One pair has changed. -/
theorem Pl.turn (S : WinSpec Win) {w0 w w' : World} {lv bv : Value} {its : List Pr} {hs : List Bk.Hd} {T : Nat → Prop} (h : Pl Win w0 w lv its bv hs) (i : Nat) (hi : i < its.length) (hc : Chg T w w') (hT : ∀ z, T z → Fq its[i] z)
    {x : Pr} (hx : Good Win w' w0.heap.size x) (ha : x.a = its[i].a) (hr : x.r = its[i].r) (hm : ∀ z, Fq x z → Fq its[i] z ∨ w.heap.size ≤ z) : Pl Win w0 w' lv (its.set i x) bv hs := by
  have hG := h.good i hi
  have tmiss : ∀ {g cs t}, w.heap[g]? = some (.cells cs t (0, 0)) → t ≠ 61 → t ≠ 5 → t ≠ 64 → ¬ T g := fun hb h1 h2 h3 f => hG.miss S hb h1 h2 h3 (hT _ f)
  have hcells : (its.set i x).flatMap Pr.cells = its.flatMap Pr.cells := by
    rw [List.flatMap_def, List.flatMap_def, List.map_set]
    congr 1
    have e1 : Pr.cells x = Pr.cells its[i] := by unfold Pr.cells; rw [ha, hr]
    have : (its.map Pr.cells)[i]? = some (Pr.cells x) := by
      rw [List.getElem?_map, List.getElem?_eq_getElem hi, e1]
      rfl
    exact List.ext_getElem? fun k => by
      rw [List.getElem?_set]
      split
      · rename_i e
        subst e
        rw [if_pos (by simpa using hi), this]
      · rfl
  have keyd : ∀ m (hm' : m < its.length), i ≠ m → ∀ z, Fq x z → ¬ Fq its[m] z := fun m hm' him z f g => by
    rcases hm z f with f | f
    · exact h.dis i m hi hm' him z f g
    · have := ((h.good m hm').lt S g).2
      omega
  refine ⟨h.chg.trans hc (fun z f => .inr (hG.lt S (hT z f)).1), ?_, fun j hj => ?_, fun j k hj hk hjk => ?_, by rw [List.length_set]; exact h.most, ?_, fun j hj k a hk g hg f => ?_⟩
  · rw [hcells, List.length_set]
    refine Bk.own_keep h.row hc (fun g e => ?_)
    obtain ⟨cur, hcur⟩ := owns_blk h.row e
    exact tmiss hcur (by decide) (by decide) (by decide)
  · simp at hj
    by_cases e : i = j
    · subst e
      simp only [List.getElem_set_self]
      exact hx
    · rw [List.getElem_set_ne e]
      exact (h.good j hj).keep S hc (fun z f s => h.dis i j hi hj e z (hT z s) f)
  · simp at hj hk
    by_cases e : i = j
    · subst e
      simp only [List.getElem_set_self]
      rw [List.getElem_set_ne hjk]
      exact keyd k hk hjk
    · rw [List.getElem_set_ne e]
      by_cases e2 : i = k
      · subst e2
        simp only [List.getElem_set_self]
        exact fun z f g => keyd j hj e z g f
      · rw [List.getElem_set_ne e2]
        exact h.dis j k hj hk hjk
  · refine bk_keep h.book hc (fun g e => ?_) (fun j a hj g e f => h.bdis i hi j a hj g e (hT g f))
    obtain ⟨cur, hcur⟩ := Bk.own_blk h.book.book e
    exact tmiss hcur (by decide) (by decide) (by decide)
  · simp at hj
    by_cases e : i = j
    · subst e
      simp only [List.getElem_set_self] at f
      rcases hm g f with f | f
      · exact h.bdis i hi k a hk g hg f
      · have := ((h.book.rows k a hk).lt hg).2
        omega
    · rw [List.getElem_set_ne e] at f
      exact h.bdis j hj k a hk g hg f
/-- One pair more; the list lies where it lay or in new memory. -/
theorem Pl.push (S : WinSpec Win) {w0 w w1 w' : World} {lv bv v' : Value} {its : List Pr} {hs : List Bk.Hd} {x : Pr} (h : Pl Win w0 w lv its bv hs) (hc : Chg (fun _ => False) w w1) (hx : Good Win w1 w0.heap.size x) (hn : ∀ z, Fq x z → w.heap.size ≤ z)
    (ho : w'.ownsRow w0.heap.size 48 2 v' (its.length + 1) (its.flatMap Pr.cells ++ x.cells)) (hg : w1.grownBy w' lv.ownBlock) (hl : its.length < 5) : Pl Win w0 w' v' (its ++ [x]) bv hs := by
  have h1 := h.new S hc
  have c2 : Chg (fun z => lv.ownBlock = some z) w1 w' := (Chg.refl _ w1).grown hg (fun k e => .inl e)
  have key : ∀ y, Good Win w1 w0.heap.size y → Good Win w' w0.heap.size y := fun y gy => by
    refine gy.keep S c2 (fun z f e => ?_)
    obtain ⟨cur, hcur⟩ := owns_blk h1.row e
    exact gy.miss S hcur (by decide) (by decide) (by decide) f
  refine ⟨h1.chg.grown hg (fun k e => .inr (h1.row.lt k e).1), ?_, fun i hi => ?_, fun i j hi hj hij => ?_, by simp; omega, ?_, fun i hi k a hk g hgg f => ?_⟩
  · rw [List.length_append, List.flatMap_append]
    simpa using ho
  · by_cases e : i < its.length
    · rw [List.getElem_append_left e]
      exact key _ (h1.good i e)
    · have e2 : i = its.length := by simp at hi; omega
      subst e2
      simp only [List.getElem_concat_length]
      exact key _ hx
  · simp at hi hj
    by_cases ei : i < its.length
    · by_cases ej : j < its.length
      · rw [List.getElem_append_left ei, List.getElem_append_left ej]
        exact h.dis i j ei ej hij
      · have : j = its.length := by omega
        subst this
        rw [List.getElem_append_left ei]
        simp only [List.getElem_concat_length]
        intro z f g
        have q1 := ((h.good i ei).lt S f).2
        have q2 := hn z g
        omega
    · have : i = its.length := by omega
      subst this
      have ej : j < its.length := by omega
      rw [List.getElem_append_left ej]
      simp only [List.getElem_concat_length]
      intro z f g
      have q1 := ((h.good j ej).lt S g).2
      have q2 := hn z f
      omega
  · refine bk_keep h1.book c2 (fun g e f => ?_) (fun j a hj g e f => ?_)
    · obtain ⟨cur, hcur⟩ := Bk.own_blk h1.book.book e
      obtain ⟨cur2, hcur2⟩ := owns_blk h1.row f
      exact ty_ne hcur hcur2 (by decide)
    · obtain ⟨cur, hcur⟩ := Bk.own_blk (h1.book.rows j a hj) e
      obtain ⟨cur2, hcur2⟩ := owns_blk h1.row f
      exact ty_ne hcur hcur2 (by decide)
  · by_cases ei : i < its.length
    · rw [List.getElem_append_left ei] at f
      exact h.bdis i ei k a hk g hgg f
    · have : i = its.length := by simp at hi; omega
      subst this
      simp only [List.getElem_concat_length] at f
      have q1 := ((h.book.rows k a hk).lt hgg).2
      have q2 := hn g f
      omega

/-- A list that none of them has. -/
structure Loose (w0 w : World) (its : List Pr) (hs : List Bk.Hd) (v : Value) (n : Nat) (xs : List Int) : Prop where
  own : w.ownsRow w0.heap.size 5 1 v n (ins .u8 xs)
  items : ∀ i (hi : i < its.length), ∀ g, v.ownBlock = some g → ¬ Fq its[i] g
  rows : ∀ (j : Nat) (a : Bk.Hd), hs[j]? = some a → ∀ g, a.v.ownBlock = some g → v.ownBlock ≠ some g
theorem Loose.new {w0 w w' : World} {its : List Pr} {hs : List Bk.Hd} {v : Value} {n : Nat} {xs : List Int} (h : Loose w0 w its hs v n xs) (hc : Chg (fun _ => False) w w') : Loose w0 w' its hs v n xs := ⟨ownsRow_keep h.own hc (fun _ _ f => f), h.items, h.rows⟩
/-- What was just made is loose. -/
theorem Pl.loose (S : WinSpec Win) {w0 w w' : World} {lv bv v : Value} {its : List Pr} {hs : List Bk.Hd} {n : Nat} {xs : List Int} (h : Pl Win w0 w lv its bv hs) (ho : w'.ownsRow w.heap.size 5 1 v n (ins .u8 xs)) : Loose w0 w' its hs v n xs := by
  refine ⟨owns_base ho h.chg.size, fun i hi g e f => ?_, fun j a hj g e e2 => ?_⟩
  · have h1 := (ho.lt g e).1
    have h2 := ((h.good i hi).lt S f).2
    omega
  · have h1 := (ho.lt g e2).1
    have h2 := ((h.book.rows j a hj).lt e).2
    omega
/-- The book has one list more. -/
theorem Pl.hold (S : WinSpec Win) {w0 w w2 w3 : World} {n : Nat} {lv bv v' v1 : Value} {its : List Pr} {hs : List Bk.Hd} {h' : Bk.Hd} {o : Obj} {xs : List Int} (h : Pl Win w0 w lv its bv hs) (hl : Loose w0 w its hs v1 n xs) (c2 : Chg (fun z => v1.ownBlock = some z) w w2) (hm : Moved w v1 h'.v)
    (hr : Bk.Row w0.heap.size w2 h') (hok : h'.ok) (hn : h'.n ≤ 1099511627776) (hown : w3.ownsRow w0.heap.size 68 5 v' (hs.length + 1) (Bk.hcells hs ++ h'.cells)) (hg : (w2.alloc o).grownBy w3 bv.ownBlock) : Pl Win w0 w3 lv its v' (hs ++ [h']) ∧ Pl Win w0 w2 lv its bv hs := by
  have uty : ∀ {g}, v1.ownBlock = some g → ∃ cur, w.heap[g]? = some (.cells cur 5 (0, 0)) := fun e => owns_blk hl.own e
  have h2 : Pl Win w0 w2 lv its bv hs := by
    refine ⟨h.chg.trans c2 (fun z e => .inr (hl.own.lt z e).1), Bk.own_keep h.row c2 (fun g e f => ?_), fun i hi => (h.good i hi).keep S c2 (fun z f e => hl.items i hi z e f), h.dis, h.most, bk_keep h.book c2 (fun g e f => ?_) (fun j a hj g e f => hl.rows j a hj g e f), h.bdis⟩
    · obtain ⟨cur, hcur⟩ := uty f
      obtain ⟨cur2, hcur2⟩ := owns_blk h.row e
      exact ty_ne hcur hcur2 (by decide)
    · obtain ⟨cur, hcur⟩ := uty f
      obtain ⟨cur2, hcur2⟩ := Bk.own_blk h.book.book e
      exact ty_ne hcur hcur2 (by decide)
  have hnew : ∀ g, h'.v.ownBlock = some g → v1.ownBlock = some g ∨ w.heap.size ≤ g := hm
  have c3 : Chg (fun k => bv.ownBlock = some k) w2 w3 := ((Chg.refl _ w2).alloc o).grown hg (fun k e => .inl e)
  have bty : ∀ {g}, bv.ownBlock = some g → ∃ cur, w2.heap[g]? = some (.cells cur 68 (0, 0)) := fun e => Bk.own_blk h2.book.book e
  refine ⟨⟨h2.chg.trans c3 (fun z e => .inr (h2.book.book.lt z e).1), Bk.own_keep h2.row c3 (fun g e f => ?_), fun i hi => (h2.good i hi).keep S c3 (fun z f e => ?_), h.dis, h.most, h2.book.push' hr (fun j a hj g e e2 => ?_) hok hn hown hg, fun i hi j a hj g e f => ?_⟩, h2⟩
  · obtain ⟨cur, hcur⟩ := bty f
    obtain ⟨cur2, hcur2⟩ := owns_blk h2.row e
    exact ty_ne hcur hcur2 (by decide)
  · obtain ⟨cur, hcur⟩ := bty e
    exact (h2.good i hi).miss S hcur (by decide) (by decide) (by decide) f
  · rcases hnew g e2 with q | q
    · exact hl.rows j a hj g e q
    · have := ((h.book.rows j a hj).lt e).2
      omega
  · by_cases hj2 : j < hs.length
    · rw [List.getElem?_append_left hj2] at hj
      exact h.bdis i hi j a hj g e f
    · rw [List.getElem?_append_right (by omega)] at hj
      have : j - hs.length = 0 := by
        rcases Nat.eq_zero_or_pos (j - hs.length) with q | q
        · exact q
        · rw [List.getElem?_eq_none (by simp; omega)] at hj; cases hj
      rw [this] at hj
      simp at hj
      subst hj
      rcases hnew g e with q | q
      · exact hl.items i hi g q f
      · have q2 := ((h.good i hi).lt S f).2
        omega
theorem Pl.loose_far {w0 w : World} {its : List Pr} {hs : List Bk.Hd} {v : Value} {n : Nat} {xs : List Int} (h : Loose w0 w its hs v n xs) (i : Nat) (hi : i < its.length) (x : Pr) (hm : ∀ z, Fq x z → Fq its[i] z ∨ w.heap.size ≤ z) : ∀ g, v.ownBlock = some g → ¬ Fq x g := fun g e f => by
  rcases hm g f with q | q
  · exact h.items i hi g e q
  · have := (h.own.lt g e).2; omega
theorem which (hh : Int) (L : Nat) (hL : 0 < L) (hL6 : L ≤ 6) : ∃ j : Nat, j < L ∧ ((hh.tmod L < 0 ∧ hh.tmod L + L = (j : Int)) ∨ (¬ hh.tmod L < 0 ∧ hh.tmod L = (j : Int))) := by
  have h1 : hh.tmod (L : Int) < L := Int.tmod_lt_of_pos hh (by omega)
  have h2 : -(L : Int) < hh.tmod (L : Int) := by
    have := Int.lt_tmod_of_pos hh (show (0 : Int) < (L : Int) by omega)
    omega
  generalize hh.tmod (L : Int) = q at *
  by_cases h : q < 0
  · exact ⟨(q + L).toNat, by omega, .inl ⟨h, by omega⟩⟩
  · exact ⟨q.toNat, by omega, .inr ⟨h, by omega⟩⟩
theorem infoP2 : (Try.prog.info? 48).map (fun i => (i.zero, i.size, i.bytes)) = some (some (.agg #[.pointer none, .pointer none]), 2, 16) := by kernel_rfl
theorem from_p (w : World) (x y : Value) (t : TypeId) : From (w.alloc (.cells #[x, y] t)) (some ⟨w.heap.size, 0, none⟩) 1 1 2 [x, y] := by
  refine ⟨rfl, .inr ⟨_, rfl, fun j u hu => ?_⟩⟩
  have hb : (w.alloc (.cells #[x, y] t)).heap[w.heap.size]? = some (.cells #[x, y] t (0, 0)) := heap_alloc_last _ _
  match j, hu with
  | 0, hu => simp at hu; subst hu; rw [addk]; exact cell0 hb
  | 1, hu => simp at hu; subst hu; rw [addk]; exact cell1 hb
end Go.Proofs.Ythgibmhbgfjkcaa
