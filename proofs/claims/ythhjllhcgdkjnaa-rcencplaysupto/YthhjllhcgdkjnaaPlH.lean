/- What the calls of a play leave: laws of 'Pl'; of no statement by themselves. -/
import Derived.Test.YthhjllhcgdkjnaaPlS
import Derived.Test.YthhjllhcgdkjnaaFam
namespace Go.Proofs.Ythhjllhcgdkjnaa.Bk
open Go.RowKit
theorem Bk.push' {B : Nat} {w2 w3 : World} {lv lv' : Value} {hs : List Hd} {h : Hd} {o : Obj} (hb : Bk B w2 lv hs) (hr : Row B w2 h) (hfar : ∀ (i : Nat) (a : Hd), hs[i]? = some a → ∀ g, a.v.ownBlock = some g → h.v.ownBlock ≠ some g) (hok : h.ok) (hn : h.n ≤ 1099511627776)
    (hown : w3.ownsRow B 69 5 lv' (hs.length + 1) (hcells hs ++ h.cells)) (hg : (w2.alloc o).grownBy w3 lv.ownBlock) : Bk B w3 lv' (hs ++ [h]) := by
  have hc : Chg (fun k => lv.ownBlock = some k) w2 w3 := ((Chg.refl _ w2).alloc o).grown hg (fun k e => .inl e)
  have hget : ∀ (i : Nat) (a : Hd), (hs ++ [h])[i]? = some a → i < hs.length ∧ hs[i]? = some a ∨ i = hs.length ∧ a = h := fun i a e => by
    by_cases hi : i < hs.length
    · rw [List.getElem?_append_left hi] at e; exact .inl ⟨hi, e⟩
    · rw [List.getElem?_append_right (by omega)] at e
      by_cases hi2 : i = hs.length
      · subst hi2; simp at e; exact .inr ⟨rfl, e.symm⟩
      · rw [List.getElem?_eq_none (by simp; omega)] at e; cases e
  refine ⟨?_, fun i a e => ?_, fun i j a b ei ej hij g hg1 hg2 => ?_, fun a ha => ?_, fun a ha => ?_⟩
  · rw [List.length_append, hcells_append]
    simpa [hcells] using hown
  · rcases hget i a e with ⟨_, e'⟩ | ⟨_, rfl⟩
    · exact ownsRow_keep (hb.rows i a e') hc (fun g hg f => book_ne hb.book (hb.rows i a e') f hg)
    · exact ownsRow_keep hr hc (fun g hg f => book_ne hb.book hr f hg)
  · rcases hget i a ei with ⟨_, ei'⟩ | ⟨hi, rfl⟩
    · rcases hget j b ej with ⟨_, ej'⟩ | ⟨hj, rfl⟩
      · exact hb.apart i j a b ei' ej' hij g hg1 hg2
      · exact hfar i a ei' g hg1 hg2
    · rcases hget j b ej with ⟨_, ej'⟩ | ⟨hj, rfl⟩
      · exact hfar j b ej' g hg2 hg1
      · omega
  · rcases List.mem_append.1 ha with e | e
    · exact hb.ok a e
    · simp at e; subst e; exact hok
  · rcases List.mem_append.1 ha with e | e
    · exact hb.small a e
    · simp at e; subst e; exact hn
end Go.Proofs.Ythhjllhcgdkjnaa.Bk
namespace Go.Proofs.Ythhjllhcgdkjnaa
open Go.RowKit
set_option linter.unusedVariables false

/-- A list that none of them has. -/
structure Loose (w0 w : World) (its : List It) (hs : List Bk.Hd) (v : Value) (n : Nat) (xs : List Int) : Prop where
  own : w.ownsRow w0.heap.size 5 1 v n (ins .u8 xs)
  items : ∀ i (hi : i < its.length), ∀ g, v.ownBlock = some g → ¬ Fp its[i] g
  rows : ∀ (j : Nat) (a : Bk.Hd), hs[j]? = some a → ∀ g, a.v.ownBlock = some g → v.ownBlock ≠ some g
theorem Loose.new {w0 w w' : World} {its : List It} {hs : List Bk.Hd} {v : Value} {n : Nat} {xs : List Int} (h : Loose w0 w its hs v n xs) (hc : Chg (fun _ => False) w w') : Loose w0 w' its hs v n xs := ⟨ownsRow_keep h.own hc (fun _ _ f => f), h.items, h.rows⟩
/-- What was just made is loose. -/
theorem Pl.loose {w0 w w' : World} {b : Nat} {lv bv v : Value} {its : List It} {hs : List Bk.Hd} {n : Nat} {xs : List Int} (h : Pl w0 w b lv its bv hs) (ho : w'.ownsRow w.heap.size 5 1 v n (ins .u8 xs)) : Loose w0 w' its hs v n xs := by
  refine ⟨owns_base ho h.chg.size, fun i hi g e f => ?_, fun j a hj g e e2 => ?_⟩
  · have h1 := (ho.lt g e).1
    have h2 := ((h.good i hi).lt f).2
    omega
  · have h1 := (ho.lt g e2).1
    have h2 := ((h.book.rows j a hj).lt e).2
    omega
/-- The book has one list more. -/
theorem Pl.hold {w0 w w2 w3 : World} {b n : Nat} {lv bv v' v1 : Value} {its : List It} {hs : List Bk.Hd} {h' : Bk.Hd} {o : Obj} {xs : List Int} (h : Pl w0 w b lv its bv hs) (hl : Loose w0 w its hs v1 n xs) (c2 : Chg (fun z => v1.ownBlock = some z) w w2) (hm : Moved w v1 h'.v)
    (hr : Bk.Row w0.heap.size w2 h') (hok : h'.ok) (hn : h'.n ≤ 1099511627776) (hown : w3.ownsRow w0.heap.size 69 5 v' (hs.length + 1) (Bk.hcells hs ++ h'.cells)) (hg : (w2.alloc o).grownBy w3 bv.ownBlock) : Pl w0 w3 b lv its v' (hs ++ [h']) ∧ Pl w0 w2 b lv its bv hs := by
  have uty : ∀ {g}, v1.ownBlock = some g → ∃ cur, w.heap[g]? = some (.cells cur 5 (0, 0)) := fun e => owns_blk hl.own e
  obtain ⟨S, hS⟩ := h.sets
  have h2 : Pl w0 w2 b lv its bv hs := by
    refine ⟨h.chg.trans c2 (fun z e => .inr (hl.own.lt z e).1), ⟨S, hS.far c2 (fun z e => ?_)⟩, Bk.own_keep h.row c2 (fun g e f => ?_), fun i hi => (h.good i hi).keep c2 (fun z e f => hl.items i hi z e f), h.dis, h.pos, h.most, bk_keep h.book c2 (fun g e f => ?_) (fun j a hj g e f => hl.rows j a hj g e f), h.bdis⟩
    · obtain ⟨cur, hcur⟩ := uty e
      exact ⟨cur, _, hcur, by decide, by decide, by decide, by decide, by decide⟩
    · obtain ⟨cur, hcur⟩ := uty f
      obtain ⟨cur2, hcur2⟩ := owns_blk h.row e
      exact ty_ne hcur hcur2 (by decide)
    · obtain ⟨cur, hcur⟩ := uty f
      obtain ⟨cur2, hcur2⟩ := Bk.own_blk h.book.book e
      exact ty_ne hcur hcur2 (by decide)
  have hnew : ∀ g, h'.v.ownBlock = some g → v1.ownBlock = some g ∨ w.heap.size ≤ g := hm
  have c3 : Chg (fun k => bv.ownBlock = some k) w2 w3 := ((Chg.refl _ w2).alloc o).grown hg (fun k e => .inl e)
  have bty : ∀ {g}, bv.ownBlock = some g → ∃ cur, w2.heap[g]? = some (.cells cur 69 (0, 0)) := fun e => Bk.own_blk h2.book.book e
  obtain ⟨S2, hS2⟩ := h2.sets
  refine ⟨⟨h2.chg.trans c3 (fun z e => .inr (h2.book.book.lt z e).1), ⟨S2, hS2.far c3 (fun z e => ?_)⟩, Bk.own_keep h2.row c3 (fun g e f => ?_), fun i hi => (h2.good i hi).keep c3 (fun z e f => ?_), h.dis, h.pos, h.most, h2.book.push' hr (fun j a hj g e e2 => ?_) hok hn hown hg, fun i hi j a hj g e f => ?_⟩, h2⟩
  · obtain ⟨cur, hcur⟩ := bty e
    exact ⟨cur, _, hcur, by decide, by decide, by decide, by decide, by decide⟩
  · obtain ⟨cur, hcur⟩ := bty f
    obtain ⟨cur2, hcur2⟩ := owns_blk h2.row e
    exact ty_ne hcur hcur2 (by decide)
  · obtain ⟨cur, hcur⟩ := bty e
    exact (h2.good i hi).miss hcur (by decide) (by decide) (by decide) f
  · rcases hnew g e2 with q | q
    · exact hl.rows j a hj g e q
    · have := ((h.book.rows j a hj).lt e).2
      omega
  · by_cases hj2 : j < hs.length
    · rw [List.getElem?_append_left hj2] at hj
      exact h.bdis i hi j a hj g e f
    · rw [List.getElem?_append_right (by omega)] at hj
      have : j - hs.length = 0 := by
        rcases Nat.eq_zero_or_pos (j - hs.length) with q | q
        · exact q
        · rw [List.getElem?_eq_none (by simp; omega)] at hj; cases hj
      rw [this] at hj
      simp at hj
      subst hj
      rcases hnew g e with q | q
      · exact hl.items i hi g q f
      · have q2 := ((h.good i hi).lt f).2
        omega
/-- Another list stays loose while one is held. -/
theorem Loose.beside {w0 w w2 w3 : World} {its : List It} {hs : List Bk.Hd} {v1 v2 bv : Value} {n m : Nat} {xs ys : List Int} {h' : Bk.Hd} {o : Obj} (h : Loose w0 w its hs v2 m ys) (hl : Loose w0 w its hs v1 n xs) (hne : ∀ g, v1.ownBlock = some g → v2.ownBlock ≠ some g) (c2 : Chg (fun z => v1.ownBlock = some z) w w2) (hm : Moved w v1 h'.v) (hb : ∃ L, w2.ownsRow w0.heap.size 69 5 bv L (Bk.hcells hs)) (hg : (w2.alloc o).grownBy w3 bv.ownBlock) : Loose w0 w3 its (hs ++ [h']) v2 m ys := by
  have c3 : Chg (fun k => bv.ownBlock = some k) w2 w3 := ((Chg.refl _ w2).alloc o).grown hg (fun k e => .inl e)
  have o2 := ownsRow_keep h.own c2 (fun g e f => hne g f e)
  obtain ⟨L, hL⟩ := hb
  refine ⟨ownsRow_keep o2 c3 (fun g e f => ?_), h.items, fun j a hj g e e2 => ?_⟩
  · obtain ⟨cur, hcur⟩ := owns_blk o2 e
    obtain ⟨cur2, hcur2⟩ := Bk.own_blk hL f
    exact ty_ne hcur hcur2 (by decide)
  · by_cases hj2 : j < hs.length
    · rw [List.getElem?_append_left hj2] at hj
      exact h.rows j a hj g e e2
    · rw [List.getElem?_append_right (by omega)] at hj
      have : j - hs.length = 0 := by
        rcases Nat.eq_zero_or_pos (j - hs.length) with q | q
        · exact q
        · rw [List.getElem?_eq_none (by simp; omega)] at hj; cases hj
      rw [this] at hj
      simp at hj
      subst hj
      rcases hm g e with q | q
      · exact hne g q e2
      · have := (h.own.lt g e2).2
        omega

/-- Behind the program's part of a bit the document's stands as it stood. -/
theorem Good.half {w w1 : World} {B : Nat} {x : It} (h : Good w B x) {T : Nat → Prop} (hc : Chg T w w1) (hT : ∀ z, T z → Foot x.a x.v z ∨ ∃ cs t, w.heap[z]? = some (.cells cs t (0, 0)) ∧ (t = 85 ∨ t = 3)) : Re w1 B x.r x.y (Rc.by_ x.e) x.e.R x.e.k := by
  refine h.re.dkeep hc (fun z s f => ?_)
  rcases hT z s with s | ⟨cs, t, hb, ht⟩
  · exact h.dis z s f
  · refine h.miss hb ?_ ?_ ?_ (.inr f) <;> (rcases ht with rfl | rfl <;> decide)
/-- Both encoders have gone on. -/
theorem Pl.both {w0 w w1 w2 : World} {b : Nat} {lv bv : Value} {its : List It} {hs : List Bk.Hd} {T1 T2 : Nat → Prop} (h : Pl w0 w b lv its bv hs) (i : Nat) (hi : i < its.length) {v' y' : Value} {e' : Rc.E}
    (c1 : Chg T1 w w1) (h1 : ∀ z, T1 z → Foot its[i].a its[i].v z ∨ (w0.heap.size ≤ z ∧ ∃ cs t, w.heap[z]? = some (.cells cs t (0, 0)) ∧ (t = 85 ∨ t = 3)))
    (m1 : Moved w its[i].v v') (e1 : Enc w1 w0.heap.size its[i].a v' e')
    (c2 : Chg T2 w1 w2) (h2 : ∀ z, T2 z → Foot its[i].r its[i].y z ∨ (w0.heap.size ≤ z ∧ ∃ cs t, w.heap[z]? = some (.cells cs t (0, 0)) ∧ (t = 85 ∨ t = 3)))
    (m2 : Moved w1 its[i].y y') (r2 : Re w2 w0.heap.size its[i].r y' (Rc.by_ e') e'.R e'.k) (ok : Rc.Ok e') (hS : ∃ S, SetsOk w2 w0.heap.size b S) : Pl w0 w2 b lv (its.set i ⟨its[i].a, its[i].r, v', y', e'⟩) bv hs := by
  have hG := h.good i hi
  have far : ∀ z, (∃ cs t, w.heap[z]? = some (.cells cs t (0, 0)) ∧ (t = 85 ∨ t = 3)) → ¬ Fp its[i] z := fun z ⟨cs, t, hb, ht⟩ => by
    refine hG.miss hb ?_ ?_ ?_ <;> (rcases ht with rfl | rfl <;> decide)
  have f1 : ∀ z, Foot its[i].a v' z → Foot its[i].a its[i].v z ∨ w.heap.size ≤ z := fun z f => m1.foot _ z f
  have f2 : ∀ z, Foot its[i].r y' z → Foot its[i].r its[i].y z ∨ w.heap.size ≤ z := fun z f => by
    rcases m2.foot _ z f with f | f
    · exact .inl f
    · exact .inr (Nat.le_trans c1.size f)
  have d12 : Dis T2 (Foot its[i].a v') := fun z s f => by
    rcases f1 z f with g | g
    · rcases h2 z s with s | ⟨_, s⟩
      · exact hG.dis z g s
      · exact far z s (.inl g)
    · rcases h2 z s with s | ⟨_, cs, t, hb, _⟩
      · have := (hG.lt (.inr s)).2
        omega
      · have := lt_of_blk hb
        omega
  refine h.turn i hi (T := fun z => T1 z ∨ T2 z) ((c1.mono (fun _ e => .inl (.inl e))).trans c2 (fun _ e => .inl (.inr e))) (fun z s => ?_) (x := ⟨its[i].a, its[i].r, v', y', e'⟩) ⟨e1.keep c2 d12, r2, ok, fun z f g => ?_⟩ rfl rfl (fun z f => ?_) hS
  · rcases s with s | s
    · rcases h1 z s with s | s
      · exact .inl (.inl s)
      · exact .inr s
    · rcases h2 z s with s | s
      · exact .inl (.inr s)
      · exact .inr s
  · rcases m2.foot _ z g with g | g
    · rcases f1 z f with f | f
      · exact hG.dis z f g
      · have := (hG.lt (.inr g)).2
        omega
    · have := (e1.foot_lt f).2
      omega
  · rcases f with f | f
    · rcases f1 z f with f | f
      · exact .inl (.inl f)
      · exact .inr f
    · rcases f2 z f with f | f
      · exact .inl (.inr f)
      · exact .inr f

theorem and1 (s : Int) : ∃ c : Nat, c < 2 ∧ bits .and .i64 s 1 = (c : Int) := by
  have e : bits .and .i64 s 1 = IntKind.i64.wrap (((BitVec.ofInt 64 s &&& BitVec.ofInt 64 1).toNat : Nat) : Int) := rfl
  have h1 : (BitVec.ofInt 64 1).toNat = 1 := by decide
  have h2 : (BitVec.ofInt 64 s &&& BitVec.ofInt 64 1).toNat = (BitVec.ofInt 64 s).toNat % 2 := by
    rw [BitVec.toNat_and, h1, Nat.and_one_is_mod]
  have hr : (BitVec.ofInt 64 s).toNat % 2 < 2 := Nat.mod_lt _ (by omega)
  refine ⟨(BitVec.ofInt 64 s).toNat % 2, hr, ?_⟩
  rw [e, h2]
  clear e h1 h2
  generalize (BitVec.ofInt 64 s).toNat % 2 = r at *
  simp [IntKind.wrap, IntKind.signed, IntKind.bits]
  omega
theorem which (hh : Int) (L : Nat) (hL : 0 < L) (hL6 : L ≤ 6) : ∃ j : Nat, j < L ∧ ((hh.tmod L < 0 ∧ hh.tmod L + L = (j : Int)) ∨ (¬ hh.tmod L < 0 ∧ hh.tmod L = (j : Int))) := by
  have h1 : hh.tmod (L : Int) < L := Int.tmod_lt_of_pos hh (by omega)
  have h2 : -(L : Int) < hh.tmod (L : Int) := by
    have := Int.lt_tmod_of_pos hh (show (0 : Int) < (L : Int) by omega)
    omega
  generalize hh.tmod (L : Int) = q at *
  by_cases h : q < 0
  · exact ⟨(q + L).toNat, by omega, .inl ⟨h, by omega⟩⟩
  · exact ⟨q.toNat, by omega, .inr ⟨h, by omega⟩⟩
theorem infoP2 : (Try.prog.info? 61).map (fun i => (i.zero, i.size, i.bytes)) = some (some (.agg #[.pointer none, .pointer none]), 2, 16) := by kernel_rfl
theorem from_p (w : World) (x y : Value) (t : TypeId) : From (w.alloc (.cells #[x, y] t)) (some ⟨w.heap.size, 0, none⟩) 1 1 2 [x, y] := by
  refine ⟨rfl, .inr ⟨_, rfl, fun j u hu => ?_⟩⟩
  have hb : (w.alloc (.cells #[x, y] t)).heap[w.heap.size]? = some (.cells #[x, y] t (0, 0)) := heap_alloc_last _ _
  match j, hu with
  | 0, hu => simp at hu; subst hu; rw [addk]; exact cell0 hb
  | 1, hu => simp at hu; subst hu; rw [addk]; exact cell1 hb
theorem cells7 {w : World} {a : Nat} {x0 x1 x2 x3 x4 x5 x6 : Value} {t : TypeId} (h : w.heap[a]? = some (.cells #[x0, x1, x2, x3, x4, x5, x6] t (0, 0))) : w.cell? ⟨a, 0, none⟩ = some x0 ∧ w.cell? ⟨a, 1, none⟩ = some x1 ∧ w.cell? ⟨a, 2, none⟩ = some x2 ∧ w.cell? ⟨a, 3, none⟩ = some x3 ∧ w.cell? ⟨a, 4, none⟩ = some x4 ∧ w.cell? ⟨a, 5, none⟩ = some x5 ∧ w.cell? ⟨a, 6, none⟩ = some x6 :=
  ⟨by simp [World.cell?, h], by simp [World.cell?, h], by simp [World.cell?, h], by simp [World.cell?, h], by simp [World.cell?, h], by simp [World.cell?, h], by simp [World.cell?, h]⟩
end Go.Proofs.Ythhjllhcgdkjnaa
