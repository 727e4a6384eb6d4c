/- Encoders in pairs, the program's and the document's, over two sets, with the book of answered lists: definitions and laws; of no statement by themselves. -/
import Derived.Test.YthhjllhcgdkjnaaArgs
import Derived.Test.YthhjllhcgdkjnaaRefC
import Derived.Test.YthhjllhcgdkjnaaRefD
import Derived.Test.YthhjllhcgdkjnaaRefF
import Derived.Test.YthhjllhcgdkjnaaKeep
namespace Go.Proofs.Ythhjllhcgdkjnaa
open Go.RowKit
set_option linter.unusedVariables false

/-- A pair: the program's encoder at a, the document's at r, both behind the same bits. -/
structure It where
  a : Nat
  r : Nat
  v : Value
  y : Value
  e : Rc.E
def It.cells (x : It) : List Value := [.pointer (some ⟨x.a, 0, none⟩), .pointer (some ⟨x.r, 0, none⟩)]
/-- What of it may change. -/
def Fp (x : It) (z : Nat) : Prop := Foot x.a x.v z ∨ Foot x.r x.y z

theorem Re.foot_lt {w : World} {B r R k : Nat} {y : Value} {ds : List Nat} (h : Re w B r y ds R k) {z : Nat} (f : Foot r y z) : B ≤ z ∧ z < w.heap.size := by
  rcases f with rfl | f
  · exact ⟨h.hr, h.lt⟩
  · exact h.own.lt z f
theorem Re.dkeep {w w' : World} {S : Nat → Prop} {B r R k : Nat} {y : Value} {ds : List Nat} (h : Re w B r y ds R k) (hc : Chg S w w') (hd : Dis S (Foot r y)) : Re w' B r y ds R k :=
  h.keep hc (fun f => hd r f (.inl rfl)) (fun g e f => hd g f (.inr e))

structure Good (w : World) (B : Nat) (x : It) : Prop where
  en : Enc w B x.a x.v x.e
  re : Re w B x.r x.y (Rc.by_ x.e) x.e.R x.e.k
  ok : Rc.Ok x.e
  dis : Dis (Foot x.a x.v) (Foot x.r x.y)
theorem Good.keep {w w' : World} {S : Nat → Prop} {B : Nat} {x : It} (h : Good w B x) (hc : Chg S w w') (hd : Dis S (Fp x)) : Good w' B x :=
  ⟨h.en.keep hc (fun z s f => hd z s (.inl f)), h.re.dkeep hc (fun z s f => hd z s (.inr f)), h.ok, h.dis⟩
theorem Good.new {w w' : World} {B : Nat} {x : It} (h : Good w B x) (hc : Chg (fun _ => False) w w') : Good w' B x := h.keep hc (fun _ f _ => f)
theorem Good.lt {w : World} {B : Nat} {x : It} (h : Good w B x) {z : Nat} (f : Fp x z) : B ≤ z ∧ z < w.heap.size := by
  rcases f with f | f
  · exact h.en.foot_lt f
  · exact h.re.foot_lt f
/-- The types of what may change. -/
theorem Good.ty {w : World} {B : Nat} {x : It} (h : Good w B x) {z : Nat} (f : Fp x z) : ∃ cs t, w.heap[z]? = some (.cells cs t (0, 0)) ∧ (t = 77 ∨ t = 5 ∨ t = 94) := by
  obtain ⟨l, hl, _⟩ := h.en
  rcases f with f | f
  · rcases f with f | f
    · rw [f]; exact ⟨_, _, hl.blk, .inl rfl⟩
    · obtain ⟨cur, hcur⟩ := owns_blk hl.own f
      exact ⟨_, _, hcur, .inr (.inl rfl)⟩
  · rcases f with f | f
    · rw [f]; exact ⟨_, _, h.re.blk, .inr (.inr rfl)⟩
    · obtain ⟨cur, hcur⟩ := owns_blk h.re.own f
      exact ⟨_, _, hcur, .inr (.inl rfl)⟩
theorem Good.miss {w : World} {B : Nat} {x : It} (h : Good w B x) {g : Nat} {cs : Array Value} {t : TypeId} (hb : w.heap[g]? = some (.cells cs t (0, 0))) (h1 : t ≠ 77) (h2 : t ≠ 5) (h3 : t ≠ 94) : ¬ Fp x g := fun f => by
  obtain ⟨cs2, t2, hb2, ht⟩ := h.ty f
  rcases ht with rfl | rfl | rfl
  · exact ty_ne hb hb2 h1
  · exact ty_ne hb hb2 h2
  · exact ty_ne hb hb2 h3

/-- The two sets, alike: by their number. -/
structure Sv where
  s : Nat → Nat
  q : Nat → Nat
  u : Nat → Value
  t : Nat → Value
  x : Nat → List Int
structure SetOk (w : World) (B : Nat) (S : Sv) (i : Nat) : Prop where
  st : St w B (S.s i) (S.u i) (S.x i)
  rt : Rt w B (S.q i) ((S.x i).length : Int) (S.t i) (S.x i)
  inn : In31 (S.x i)
  len : (S.x i).length ≤ 40
structure SetsOk (w : World) (B b : Nat) (S : Sv) : Prop where
  box : w.heap[b]? = some (.cells #[.pointer (some ⟨S.s 0, 0, none⟩), .pointer (some ⟨S.s 1, 0, none⟩), .pointer (some ⟨S.q 0, 0, none⟩), .pointer (some ⟨S.q 1, 0, none⟩)] 55 (0, 0))
  zero : SetOk w B S 0
  one : SetOk w B S 1
  du : ∀ g, (S.u 0).ownBlock = some g → (S.u 1).ownBlock ≠ some g
  dt : ∀ g, (S.t 0).ownBlock = some g → (S.t 1).ownBlock ≠ some g
theorem SetsOk.at {w : World} {B b : Nat} {S : Sv} (h : SetsOk w B b S) (i : Nat) (hi : i < 2) : SetOk w B S i ∧ w.cell? ⟨b, i, none⟩ = some (.pointer (some ⟨S.s i, 0, none⟩)) ∧ w.cell? ⟨b, 2 + i, none⟩ = some (.pointer (some ⟨S.q i, 0, none⟩)) := by
  have hb := h.box
  match i, hi with
  | 0, _ => exact ⟨h.zero, by simp [World.cell?, hb], by simp [World.cell?, hb]⟩
  | 1, _ => exact ⟨h.one, by simp [World.cell?, hb], by simp [World.cell?, hb]⟩
theorem SetOk.keep {w w' : World} {T : Nat → Prop} {B : Nat} {S : Sv} {i : Nat} (h : SetOk w B S i) (hc : Chg T w w') (h1 : ¬ T (S.s i)) (h2 : ¬ T (S.q i)) (h3 : ∀ g, (S.u i).ownBlock = some g → ¬ T g) (h4 : ∀ g, (S.t i).ownBlock = some g → ¬ T g) : SetOk w' B S i :=
  ⟨h.st.keep hc h1 h3, h.rt.keep hc h2 h4, h.inn, h.len⟩
/-- A change that touches blocks of other types alone. -/
def Far (w : World) (T : Nat → Prop) : Prop := ∀ z, T z → ∃ cs t, w.heap[z]? = some (.cells cs t (0, 0)) ∧ t ≠ 55 ∧ t ≠ 88 ∧ t ≠ 100 ∧ t ≠ 85 ∧ t ≠ 3
theorem SetOk.far {w w' : World} {T : Nat → Prop} {B : Nat} {S : Sv} {i : Nat} (h : SetOk w B S i) (hc : Chg T w w') (hT : Far w T) : SetOk w' B S i := by
  refine h.keep hc (fun f => ?_) (fun f => ?_) (fun g e f => ?_) (fun g e f => ?_)
  · obtain ⟨cs, t, hb, h1, h2, h3, h4, h5⟩ := hT _ f
    exact ty_ne hb h.st.blk h2
  · obtain ⟨cs, t, hb, h1, h2, h3, h4, h5⟩ := hT _ f
    exact ty_ne hb h.rt.blk h3
  · obtain ⟨cs, t, hb, h1, h2, h3, h4, h5⟩ := hT _ f
    obtain ⟨cur, hcur⟩ := owns_blk h.st.own e
    exact ty_ne hb hcur h4
  · obtain ⟨cs, t, hb, h1, h2, h3, h4, h5⟩ := hT _ f
    obtain ⟨cur, hcur⟩ := owns_blk h.rt.own e
    exact ty_ne hb hcur h5
theorem SetsOk.far {w w' : World} {T : Nat → Prop} {B b : Nat} {S : Sv} (h : SetsOk w B b S) (hc : Chg T w w') (hT : Far w T) : SetsOk w' B b S := by
  refine ⟨blk_keep h.box hc (fun f => ?_), h.zero.far hc hT, h.one.far hc hT, h.du, h.dt⟩
  obtain ⟨cs, t, hb, h1, _⟩ := hT _ f
  exact ty_ne hb h.box h1
theorem SetsOk.new {w w' : World} {B b : Nat} {S : Sv} (h : SetsOk w B b S) (hc : Chg (fun _ => False) w w') : SetsOk w' B b S := h.far hc (fun _ f => f.elim)
theorem Good.far {w : World} {B : Nat} {x : It} (h : Good w B x) : Far w (Fp x) := fun z f => by
  obtain ⟨cs, t, hb, ht⟩ := h.ty f
  refine ⟨cs, t, hb, ?_⟩
  rcases ht with rfl | rfl | rfl <;> decide
theorem SetsOk.du' {w : World} {B b : Nat} {S : Sv} (h : SetsOk w B b S) {i j g : Nat} (hi : i < 2) (hj : j < 2) (hne : j ≠ i) (f : (S.u i).ownBlock = some g) (e : (S.u j).ownBlock = some g) : False := by
  have hc : (i = 0 ∧ j = 1) ∨ (i = 1 ∧ j = 0) := by omega
  rcases hc with ⟨rfl, rfl⟩ | ⟨rfl, rfl⟩
  · exact h.du g f e
  · exact h.du g e f
theorem SetsOk.dt' {w : World} {B b : Nat} {S : Sv} (h : SetsOk w B b S) {i j g : Nat} (hi : i < 2) (hj : j < 2) (hne : j ≠ i) (f : (S.t i).ownBlock = some g) (e : (S.t j).ownBlock = some g) : False := by
  have hc : (i = 0 ∧ j = 1) ∨ (i = 1 ∧ j = 0) := by omega
  rcases hc with ⟨rfl, rfl⟩ | ⟨rfl, rfl⟩
  · exact h.dt g f e
  · exact h.dt g e f
/-- One set has moved. -/
def Sv.put (S : Sv) (i : Nat) (xs : List Int) : Sv := ⟨S.s, S.q, S.u, S.t, fun j => if j = i then xs else S.x j⟩
theorem SetsOk.put {w w' : World} {T : Nat → Prop} {B b : Nat} {S : Sv} (h : SetsOk w B b S) (i : Nat) (hi : i < 2) (hc : Chg T w w') (hT : ∀ z, T z → (S.u i).ownBlock = some z ∨ (S.t i).ownBlock = some z ∨ ∃ cs t, w.heap[z]? = some (.cells cs t (0, 0)) ∧ t ≠ 55 ∧ t ≠ 88 ∧ t ≠ 100 ∧ t ≠ 85 ∧ t ≠ 3)
    (xs : List Int) (hS : St w' B (S.s i) (S.u i) xs) (hR : Rt w' B (S.q i) ((S.x i).length : Int) (S.t i) xs) (hl : xs.length = (S.x i).length) (hI : In31 xs) : SetsOk w' B b (S.put i xs) := by
  have hbox : ¬ T b := fun f => by
    rcases hT _ f with f | f | ⟨cs, t, hb, h1, _⟩
    · obtain ⟨cur, hcur⟩ := owns_blk (h.at i hi).1.st.own f
      exact ty_ne hcur h.box (by decide)
    · obtain ⟨cur, hcur⟩ := owns_blk (h.at i hi).1.rt.own f
      exact ty_ne hcur h.box (by decide)
    · exact ty_ne hb h.box h1
  have other : ∀ j, j < 2 → j ≠ i → SetOk w' B (S.put i xs) j := fun j hj hne => by
    have hj' := (h.at j hj).1
    have hi' := (h.at i hi).1
    have hk : SetOk w' B S j := by
      refine hj'.keep hc (fun f => ?_) (fun f => ?_) (fun g e f => ?_) (fun g e f => ?_)
      · rcases hT _ f with f | f | ⟨cs, t, hb, h1, h2, _⟩
        · obtain ⟨cur, hcur⟩ := owns_blk hi'.st.own f
          exact ty_ne hcur hj'.st.blk (by decide)
        · obtain ⟨cur, hcur⟩ := owns_blk hi'.rt.own f
          exact ty_ne hcur hj'.st.blk (by decide)
        · exact ty_ne hb hj'.st.blk h2
      · rcases hT _ f with f | f | ⟨cs, t, hb, h1, h2, h3, _⟩
        · obtain ⟨cur, hcur⟩ := owns_blk hi'.st.own f
          exact ty_ne hcur hj'.rt.blk (by decide)
        · obtain ⟨cur, hcur⟩ := owns_blk hi'.rt.own f
          exact ty_ne hcur hj'.rt.blk (by decide)
        · exact ty_ne hb hj'.rt.blk h3
      · rcases hT _ f with f | f | ⟨cs, t, hb, h1, h2, h3, h4, h5⟩
        · exact h.du' hi hj hne f e
        · obtain ⟨cur, hcur⟩ := owns_blk hi'.rt.own f
          obtain ⟨cur2, hcur2⟩ := owns_blk hj'.st.own e
          exact ty_ne hcur hcur2 (by decide)
        · obtain ⟨cur2, hcur2⟩ := owns_blk hj'.st.own e
          exact ty_ne hb hcur2 h4
      · rcases hT _ f with f | f | ⟨cs, t, hb, h1, h2, h3, h4, h5⟩
        · obtain ⟨cur, hcur⟩ := owns_blk hi'.st.own f
          obtain ⟨cur2, hcur2⟩ := owns_blk hj'.rt.own e
          exact ty_ne hcur hcur2 (by decide)
        · exact h.dt' hi hj hne f e
        · obtain ⟨cur2, hcur2⟩ := owns_blk hj'.rt.own e
          exact ty_ne hb hcur2 h5
    have ex : (S.put i xs).x j = S.x j := by simp [Sv.put, hne]
    exact ⟨by rw [ex]; exact hk.st, by rw [ex]; exact hk.rt, by rw [ex]; exact hk.inn, by rw [ex]; exact hk.len⟩
  have self : SetOk w' B (S.put i xs) i := by
    have ex : (S.put i xs).x i = xs := by simp [Sv.put]
    refine ⟨by rw [ex]; exact hS, ?_, by rw [ex]; exact hI, by rw [ex, hl]; exact (h.at i hi).1.len⟩
    rw [ex, hl]
    exact hR
  refine ⟨blk_keep h.box hc hbox, ?_, ?_, h.du, h.dt⟩
  · by_cases e : i = 0
    · subst e; exact self
    · exact other 0 (by omega) (fun x => e x.symm)
  · by_cases e : i = 1
    · subst e; exact self
    · exact other 1 (by omega) (fun x => e x.symm)

theorem bk_keep {B : Nat} {w w' : World} {lv : Value} {hs : List Bk.Hd} {S : Nat → Prop} (h : Bk.Bk B w lv hs) (hc : Chg S w w') (h1 : ∀ g, lv.ownBlock = some g → ¬ S g) (h2 : ∀ (i : Nat) (a : Bk.Hd), hs[i]? = some a → ∀ g, a.v.ownBlock = some g → ¬ S g) : Bk.Bk B w' lv hs :=
  ⟨Bk.own_keep h.book hc h1, Bk.rows_keep h.rows hc h2, h.apart, h.ok, h.small⟩

/-- All of it. -/
structure Pl (w0 w : World) (b : Nat) (lv : Value) (its : List It) (bv : Value) (hs : List Bk.Hd) : Prop where
  chg : Chg (fun _ => False) w0 w
  sets : ∃ S, SetsOk w w0.heap.size b S
  row : w.ownsRow w0.heap.size 61 2 lv its.length (its.flatMap It.cells)
  good : ∀ i (h : i < its.length), Good w w0.heap.size its[i]
  dis : ∀ i j (hi : i < its.length) (hj : j < its.length), i ≠ j → Dis (Fp its[i]) (Fp its[j])
  pos : 0 < its.length
  most : its.length ≤ 5
  book : Bk.Bk w0.heap.size w bv hs
  bdis : ∀ i (hi : i < its.length), ∀ (j : Nat) (a : Bk.Hd), hs[j]? = some a → ∀ g, a.v.ownBlock = some g → ¬ Fp its[i] g
theorem Pl.new {w0 w w' : World} {b : Nat} {lv bv : Value} {its : List It} {hs : List Bk.Hd} (h : Pl w0 w b lv its bv hs) (hc : Chg (fun _ => False) w w') : Pl w0 w' b lv its bv hs := by
  obtain ⟨S, hS⟩ := h.sets
  exact ⟨chg_then h.chg hc, ⟨S, hS.new hc⟩, Bk.own_keep h.row hc (fun _ _ f => f), fun i hi => (h.good i hi).new hc, h.dis, h.pos, h.most, h.book.new hc, h.bdis⟩

theorem pairs_at : ∀ (xs : List It) (k : Nat) (hk : k < xs.length) (j : Nat), j < 2 → (xs.flatMap It.cells)[k * 2 + j]? = xs[k].cells[j]?
  | [], k, hk, j, hj => by simp at hk
  | y :: ys, 0, hk, j, hj => by
    rw [List.flatMap_cons, List.getElem?_append_left (by simp [It.cells]; omega)]
    simp
  | y :: ys, k + 1, hk, j, hj => by
    rw [List.flatMap_cons, List.getElem?_append_right (by simp [It.cells]; omega)]
    have e : (k + 1) * 2 + j - y.cells.length = k * 2 + j := by simp [It.cells]; omega
    rw [e]
    exact pairs_at ys k (by simpa using hk) j hj
/-- Where the list lies. -/
theorem Pl.at {w0 w : World} {b : Nat} {lv bv : Value} {xs : List It} {hs : List Bk.Hd} (h : Pl w0 w b lv xs bv hs) : ∃ g cap, lv = .slice (some ⟨g, 0, none⟩) xs.length cap ∧ xs.length ≤ cap ∧ ∀ k (hk : k < xs.length), w.cell? ⟨g, k * 2, none⟩ = some (.pointer (some ⟨xs[k].a, 0, none⟩)) ∧ w.cell? ⟨g, k * 2 + 1, none⟩ = some (.pointer (some ⟨xs[k].r, 0, none⟩)) := by
  have h0 := h.pos
  rcases h.row.2 with ⟨_, e⟩ | ⟨g, cap, cur, rfl, _, _, hc, _⟩
  · omega
  · refine ⟨g, cap, rfl, hc, fun k hk => ?_⟩
    have hget := pairs_at xs k hk
    have c0 := h.row.cells (g := g) rfl (k * 2) (.pointer (some ⟨xs[k].a, 0, none⟩)) (by have := hget 0 (by omega); simpa [It.cells] using this)
    have c1 := h.row.cells (g := g) rfl (k * 2 + 1) (.pointer (some ⟨xs[k].r, 0, none⟩)) (by have := hget 1 (by omega); simpa [It.cells] using this)
    rw [addk, Nat.zero_add] at c0 c1
    exact ⟨c0, c1⟩

/-- One pair has changed, and perhaps a set. -/
theorem Pl.turn {w0 w w' : World} {b : Nat} {lv bv : Value} {its : List It} {hs : List Bk.Hd} {T : Nat → Prop} (h : Pl w0 w b lv its bv hs) (i : Nat) (hi : i < its.length) (hc : Chg T w w') (hT : ∀ z, T z → Fp its[i] z ∨ (w0.heap.size ≤ z ∧ ∃ cs t, w.heap[z]? = some (.cells cs t (0, 0)) ∧ (t = 85 ∨ t = 3)))
    {x : It} (hx : Good w' w0.heap.size x) (ha : x.a = its[i].a) (hr : x.r = its[i].r) (hm : ∀ z, Fp x z → Fp its[i] z ∨ w.heap.size ≤ z) (hS : ∃ S, SetsOk w' w0.heap.size b S) : Pl w0 w' b lv (its.set i x) bv hs := by
  have hG := h.good i hi
  have tmiss : ∀ {g cs t}, w.heap[g]? = some (.cells cs t (0, 0)) → t ≠ 77 → t ≠ 5 → t ≠ 94 → t ≠ 85 → t ≠ 3 → ¬ T g := fun hb h1 h2 h3 h4 h5 f => by
    rcases hT _ f with f | ⟨_, cs2, t2, hb2, ht⟩
    · exact hG.miss hb h1 h2 h3 f
    · rcases ht with rfl | rfl
      · exact ty_ne hb hb2 h4
      · exact ty_ne hb hb2 h5
  have hcells : (its.set i x).flatMap It.cells = its.flatMap It.cells := by
    rw [List.flatMap_def, List.flatMap_def, List.map_set]
    congr 1
    have e1 : It.cells x = It.cells its[i] := by unfold It.cells; rw [ha, hr]
    have : (its.map It.cells)[i]? = some (It.cells x) := by
      rw [List.getElem?_map, List.getElem?_eq_getElem hi, e1]
      rfl
    exact List.ext_getElem? fun k => by
      rw [List.getElem?_set]
      split
      · rename_i e
        subst e
        rw [if_pos (by simpa using hi), this]
      · rfl
  have keyd : ∀ m (hm' : m < its.length), i ≠ m → Dis (Fp x) (Fp its[m]) := fun m hm' him z f g => by
    rcases hm z f with f | f
    · exact h.dis i m hi hm' him z f g
    · have := ((h.good m hm').lt g).2
      omega
  refine ⟨h.chg.trans hc (fun z f => ?_), hS, ?_, fun j hj => ?_, fun j k hj hk hjk => ?_, by rw [List.length_set]; exact h.pos, by rw [List.length_set]; exact h.most, ?_, fun j hj k a hk g hg f => ?_⟩
  · rcases hT z f with f | ⟨f, _⟩
    · exact .inr (hG.lt f).1
    · exact .inr f
  · rw [hcells, List.length_set]
    refine Bk.own_keep h.row hc (fun g e => ?_)
    obtain ⟨cur, hcur⟩ := owns_blk h.row e
    exact tmiss hcur (by decide) (by decide) (by decide) (by decide) (by decide)
  · simp at hj
    by_cases e : i = j
    · subst e
      simp only [List.getElem_set_self]
      exact hx
    · rw [List.getElem_set_ne e]
      refine (h.good j hj).keep hc (fun z s f => ?_)
      rcases hT z s with s | ⟨_, cs, t, hb, ht⟩
      · exact h.dis i j hi hj e z s f
      · refine (h.good j hj).miss hb ?_ ?_ ?_ f <;> (rcases ht with rfl | rfl <;> decide)
  · simp at hj hk
    by_cases e : i = j
    · subst e
      simp only [List.getElem_set_self]
      rw [List.getElem_set_ne hjk]
      exact keyd k hk hjk
    · rw [List.getElem_set_ne e]
      by_cases e2 : i = k
      · subst e2
        simp only [List.getElem_set_self]
        exact (keyd j hj e).symm
      · rw [List.getElem_set_ne e2]
        exact h.dis j k hj hk hjk
  · refine bk_keep h.book hc (fun g e => ?_) (fun j a hj g e f => ?_)
    · obtain ⟨cur, hcur⟩ := Bk.own_blk h.book.book e
      exact tmiss hcur (by decide) (by decide) (by decide) (by decide) (by decide)
    · rcases hT g f with f | ⟨_, cs, t, hb, ht⟩
      · exact h.bdis i hi j a hj g e f
      · obtain ⟨cur, hcur⟩ := Bk.own_blk (h.book.rows j a hj) e
        rcases ht with rfl | rfl <;> exact ty_ne hb hcur (by decide)
  · simp at hj
    by_cases e : i = j
    · subst e
      simp only [List.getElem_set_self] at f
      rcases hm g f with f | f
      · exact h.bdis i hi k a hk g hg f
      · have := ((h.book.rows k a hk).lt hg).2
        omega
    · rw [List.getElem_set_ne e] at f
      exact h.bdis j hj k a hk g hg f

/-- One pair more; the list lies where it lay or in new memory. -/
theorem Pl.push {w0 w w1 w' : World} {b : Nat} {lv bv v' : Value} {its : List It} {hs : List Bk.Hd} {x : It} (h : Pl w0 w b lv its bv hs) (hc : Chg (fun _ => False) w w1) (hx : Good w1 w0.heap.size x) (hn : ∀ z, Fp x z → w.heap.size ≤ z)
    (ho : w'.ownsRow w0.heap.size 61 2 v' (its.length + 1) (its.flatMap It.cells ++ x.cells)) (hg : w1.grownBy w' lv.ownBlock) (hl : its.length < 5) : Pl w0 w' b v' (its ++ [x]) bv hs := by
  have h1 := h.new hc
  have c2 : Chg (fun z => lv.ownBlock = some z) w1 w' := (Chg.refl _ w1).grown hg (fun k e => .inl e)
  have key : ∀ y, Good w1 w0.heap.size y → Good w' w0.heap.size y := fun y gy => by
    refine gy.keep c2 (fun z e f => ?_)
    obtain ⟨cur, hcur⟩ := owns_blk h1.row e
    exact gy.miss hcur (by decide) (by decide) (by decide) f
  obtain ⟨S, hS⟩ := h1.sets
  refine ⟨h1.chg.grown hg (fun k e => .inr (h1.row.lt k e).1), ⟨S, hS.far c2 (fun z e => ?_)⟩, ?_, fun i hi => ?_, fun i j hi hj hij => ?_, by simp, by simp; omega, ?_, fun i hi k a hk g hgg f => ?_⟩
  · obtain ⟨cur, hcur⟩ := owns_blk h1.row e
    exact ⟨cur, _, hcur, by decide, by decide, by decide, by decide, by decide⟩
  · rw [List.length_append, List.flatMap_append]
    simpa using ho
  · by_cases e : i < its.length
    · rw [List.getElem_append_left e]
      exact key _ (h1.good i e)
    · have e2 : i = its.length := by simp at hi; omega
      subst e2
      simp only [List.getElem_concat_length]
      exact key _ hx
  · simp at hi hj
    by_cases ei : i < its.length
    · by_cases ej : j < its.length
      · rw [List.getElem_append_left ei, List.getElem_append_left ej]
        exact h.dis i j ei ej hij
      · have : j = its.length := by omega
        subst this
        rw [List.getElem_append_left ei]
        simp only [List.getElem_concat_length]
        intro z f g
        have q1 := ((h.good i ei).lt f).2
        have q2 := hn z g
        omega
    · have : i = its.length := by omega
      subst this
      have ej : j < its.length := by omega
      rw [List.getElem_append_left ej]
      simp only [List.getElem_concat_length]
      intro z f g
      have q1 := ((h.good j ej).lt g).2
      have q2 := hn z f
      omega
  · refine bk_keep h1.book c2 (fun g e f => ?_) (fun j a hj g e f => ?_)
    · obtain ⟨cur, hcur⟩ := Bk.own_blk h1.book.book e
      obtain ⟨cur2, hcur2⟩ := owns_blk h1.row f
      exact ty_ne hcur hcur2 (by decide)
    · obtain ⟨cur, hcur⟩ := Bk.own_blk (h1.book.rows j a hj) e
      obtain ⟨cur2, hcur2⟩ := owns_blk h1.row f
      exact ty_ne hcur hcur2 (by decide)
  · by_cases ei : i < its.length
    · rw [List.getElem_append_left ei] at f
      exact h.bdis i ei k a hk g hgg f
    · have : i = its.length := by simp at hi; omega
      subst this
      simp only [List.getElem_concat_length] at f
      have q1 := ((h.book.rows k a hk).lt hgg).2
      have q2 := hn g f
      omega

/-- The book has one list more. -/
theorem Pl.held {w0 w w1 w2 w3 : World} {b : Nat} {lv bv v' v1 : Value} {its : List It} {hs : List Bk.Hd} {h' : Bk.Hd} {o : Obj} (h : Pl w0 w b lv its bv hs) (c1 : Chg (fun _ => False) w w1) (hv1 : ∀ g, v1.ownBlock = some g → w.heap.size ≤ g) (c2 : Chg (fun z => v1.ownBlock = some z) w1 w2) (hm : Moved w1 v1 h'.v)
    (hr : Bk.Row w0.heap.size w2 h') (hok : h'.ok) (hn : h'.n ≤ 1099511627776) (hown : w3.ownsRow w0.heap.size 69 5 v' (hs.length + 1) (Bk.hcells hs ++ h'.cells)) (hg : (w2.alloc o).grownBy w3 bv.ownBlock) : Pl w0 w3 b lv its v' (hs ++ [h']) := by
  have c12 : Chg (fun _ => False) w w2 := c1.trans c2 (fun z e => .inr (hv1 z e))
  have h2 := h.new c12
  have hnew : ∀ g, h'.v.ownBlock = some g → w.heap.size ≤ g := fun g e => by
    rcases hm g e with e | e
    · exact hv1 g e
    · exact Nat.le_trans c1.size e
  have c3 : Chg (fun k => bv.ownBlock = some k) w2 w3 := ((Chg.refl _ w2).alloc o).grown hg (fun k e => .inl e)
  have bty : ∀ {g}, bv.ownBlock = some g → ∃ cur, w2.heap[g]? = some (.cells cur 69 (0, 0)) := fun e => Bk.own_blk h2.book.book e
  obtain ⟨S, hS⟩ := h2.sets
  refine ⟨h2.chg.trans c3 (fun z e => .inr (h2.book.book.lt z e).1), ⟨S, hS.far c3 (fun z e => ?_)⟩, Bk.own_keep h2.row c3 (fun g e f => ?_), fun i hi => (h2.good i hi).keep c3 (fun z e f => ?_), h.dis, h.pos, h.most, h.book.push h2.book hr hnew hok hn hown hg, fun i hi j a hj g e f => ?_⟩
  · obtain ⟨cur, hcur⟩ := bty e
    exact ⟨cur, _, hcur, by decide, by decide, by decide, by decide, by decide⟩
  · obtain ⟨cur, hcur⟩ := bty f
    obtain ⟨cur2, hcur2⟩ := owns_blk h2.row e
    exact ty_ne hcur hcur2 (by decide)
  · obtain ⟨cur, hcur⟩ := bty e
    exact (h2.good i hi).miss hcur (by decide) (by decide) (by decide) f
  · by_cases hj2 : j < hs.length
    · rw [List.getElem?_append_left hj2] at hj
      exact h.bdis i hi j a hj g e f
    · rw [List.getElem?_append_right (by omega)] at hj
      have : j - hs.length = 0 := by
        rcases Nat.eq_zero_or_pos (j - hs.length) with q | q
        · exact q
        · rw [List.getElem?_eq_none (by simp; omega)] at hj; cases hj
      rw [this] at hj
      simp at hj
      subst hj
      have q1 := hnew g e
      have q2 := ((h.good i hi).lt f).2
      omega
end Go.Proofs.Ythhjllhcgdkjnaa
