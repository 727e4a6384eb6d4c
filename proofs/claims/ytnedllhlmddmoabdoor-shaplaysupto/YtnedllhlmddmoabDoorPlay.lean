/- Hashes side by side, the program's and the document's ('Play'): definitions and laws; of no statement by themselves. -/
import Derived.Test.YtnedllhlmddmoabDoorGrow
import Derived.Test.YtnedllhlmddmoabDoorSumsA
namespace Go.Proofs.YtnedllhlmddmoabDoor
open Go.RowKit
set_option linter.unusedVariables false

/-- A pair: the program's hash at a, the document's at r; both began at the state s behind n bytes and have eaten bs; v is the document's list of them. -/
structure It where
  a : Nat
  r : Nat
  s : List Nat
  n : Nat
  v : Value
  bs : List Nat

def It.cells (x : It) : List Value := [.pointer (some ⟨x.a, 0, none⟩), .pointer (some ⟨x.r, 0, none⟩)]

structure Good (w : World) (B M : Nat) (x : It) : Prop where
  eat : Eat w x.a x.s x.n x.bs
  blk : w.heap[x.r]? = some (.cells (rcells x.s x.n x.v).toArray 47 (0, 0))
  own : w.ownsRow B 5 1 x.v x.bs.length (cells8 (up x.bs))
  byt : Byt x.bs
  st : Sha.St x.s
  n64 : x.n % 64 = 0
  nle : x.n ≤ 1152921504606846976
  len : x.bs.length ≤ M
  ha : B ≤ x.a
  hr : B ≤ x.r

theorem Good.keep {w w' : World} {B M : Nat} {x : It} {S : Nat → Prop} (h : Good w B M x) (hc : Chg S w w') (ha : ¬ S x.a) (hr : ¬ S x.r) (hv : ∀ g, x.v.ownBlock = some g → ¬ S g) : Good w' B M x :=
  ⟨h.eat.keep hc ha, blk_keep h.blk hc hr, ownsRow_keep h.own hc hv, h.byt, h.st, h.n64, h.nle, h.len, h.ha, h.hr⟩
theorem Good.new {w w' : World} {B M : Nat} {x : It} (h : Good w B M x) (hc : Chg (fun _ => False) w w') : Good w' B M x := h.keep hc (fun f => f) (fun f => f) (fun _ _ f => f)
theorem Good.more {w : World} {B M M' : Nat} {x : It} (h : Good w B M x) (hM : M ≤ M') : Good w B M' x := ⟨h.eat, h.blk, h.own, h.byt, h.st, h.n64, h.nle, Nat.le_trans h.len hM, h.ha, h.hr⟩

theorem Good.rh {w : World} {B M : Nat} {x : It} (h : Good w B M x) : Rh w x.r x.s x.n x.v x.bs := by
  obtain ⟨ad, c, e, hr, _⟩ := own_row8c h.own
  exact ⟨h.blk, h.st.1, ad, c, e, hr⟩
theorem Good.ab {w : World} {B M : Nat} {x : It} (h : Good w B M x) : ∃ cs, w.heap[x.a]? = some (.cells cs 56 (0, 0)) := by
  obtain ⟨b, h1, _⟩ := h.eat
  exact ⟨_, h1.blk⟩
theorem Good.alt {w : World} {B M : Nat} {x : It} (h : Good w B M x) : x.a < w.heap.size := eat_lt h.eat
theorem Good.rlt {w : World} {B M : Nat} {x : It} (h : Good w B M x) : x.r < w.heap.size := lt_of_blk h.blk
theorem Good.vlt {w : World} {B M : Nat} {x : It} (h : Good w B M x) (g : Nat) (e : x.v.ownBlock = some g) : g < w.heap.size := (h.own.lt g e).2
theorem Good.vb {w : World} {B M : Nat} {x : It} (h : Good w B M x) (g : Nat) (e : x.v.ownBlock = some g) : ∃ cs, w.heap[g]? = some (.cells cs 5 (0, 0)) := ownsRow_blk h.own e

theorem ty_ne {w : World} {g : Nat} {cs cs' : Array Value} {t t' : TypeId} (h : w.heap[g]? = some (.cells cs t (0, 0))) (h' : w.heap[g]? = some (.cells cs' t' (0, 0))) (hne : t ≠ t') : False := by
  rw [h] at h'
  simp at h'
  exact hne h'.2

theorem Good.ar {w : World} {B M B' M' : Nat} {x y : It} (h : Good w B M x) (k : Good w B' M' y) : x.a ≠ y.r := fun e => by
  obtain ⟨cs, h1⟩ := h.ab
  rw [e] at h1
  exact ty_ne h1 k.blk (by decide)
theorem Good.av {w : World} {B M B' M' : Nat} {x y : It} (h : Good w B M x) (k : Good w B' M' y) : y.v.ownBlock ≠ some x.a := fun e => by
  obtain ⟨cs, h1⟩ := h.ab
  obtain ⟨cs', h2⟩ := k.vb _ e
  exact ty_ne h1 h2 (by decide)
theorem Good.rv {w : World} {B M B' M' : Nat} {x y : It} (h : Good w B M x) (k : Good w B' M' y) : y.v.ownBlock ≠ some x.r := fun e => by
  obtain ⟨cs', h2⟩ := k.vb _ e
  exact ty_ne h.blk h2 (by decide)

theorem owns_blk {w : World} {B size : Nat} {e : TypeId} {v : Value} {n : Nat} {xs : List Value} (h : w.ownsRow B e size v n xs) {g : Nat} (hg : v.ownBlock = some g) : ∃ cur, w.heap[g]? = some (.cells cur e (0, 0)) := by
  rcases h.2 with ⟨rfl, _⟩ | ⟨g', cap, cur, rfl, hb, hgg, _⟩
  · simp [Value.ownBlock] at hg
  · simp [Value.ownBlock] at hg
    subst hg
    exact ⟨cur, hgg⟩
theorem owns_keep {w w' : World} {S : Nat → Prop} {B size : Nat} {e : TypeId} {v : Value} {n : Nat} {xs : List Value} (h : w.ownsRow B e size v n xs) (hc : Chg S w w') (hS : ∀ g, v.ownBlock = some g → ¬ S g) : w'.ownsRow B e size v n xs := by
  refine ⟨h.1, ?_⟩
  rcases h.2 with hn | ⟨g, cap, cur, rfl, hb, hgg, rest⟩
  · exact .inl hn
  · exact .inr ⟨g, cap, cur, rfl, hb, (hc.block g (lt_of_blk hgg) (hS g rfl)).trans hgg, rest⟩

/-- No two of them share. -/
def Apart (x y : It) : Prop := x.a ≠ y.a ∧ x.r ≠ y.r ∧ ∀ g, x.v.ownBlock = some g → y.v.ownBlock ≠ some g

/-- The list of pairs, each good, all apart. -/
structure Play (w0 w : World) (M : Nat) (lv : Value) (xs : List It) : Prop where
  chg : Chg (fun _ => False) w0 w
  row : w.ownsRow w0.heap.size 39 2 lv xs.length (xs.flatMap It.cells)
  good : ∀ i (h : i < xs.length), Good w w0.heap.size M xs[i]
  apart : ∀ i j (hi : i < xs.length) (hj : j < xs.length), i ≠ j → Apart xs[i] xs[j]
  pos : 0 < xs.length
  most : xs.length ≤ 6

theorem Play.new {w0 w w' : World} {M : Nat} {lv : Value} {xs : List It} (h : Play w0 w M lv xs) (hc : Chg (fun _ => False) w w') : Play w0 w' M lv xs :=
  ⟨chg_then h.chg hc, owns_keep h.row hc (fun _ _ f => f), fun i hi => (h.good i hi).new hc, h.apart, h.pos, h.most⟩
theorem Play.more {w0 w : World} {M M' : Nat} {lv : Value} {xs : List It} (h : Play w0 w M lv xs) (hM : M ≤ M') : Play w0 w M' lv xs :=
  ⟨h.chg, h.row, fun i hi => (h.good i hi).more hM, h.apart, h.pos, h.most⟩

theorem pairs_at : ∀ (xs : List It) (k : Nat) (hk : k < xs.length) (j : Nat), j < 2 → (xs.flatMap It.cells)[k * 2 + j]? = xs[k].cells[j]?
  | [], k, hk, j, hj => by simp at hk
  | y :: ys, 0, hk, j, hj => by
    rw [List.flatMap_cons, List.getElem?_append_left (by simp [It.cells]; omega)]
    simp
  | y :: ys, k + 1, hk, j, hj => by
    rw [List.flatMap_cons, List.getElem?_append_right (by simp [It.cells]; omega)]
    have e : (k + 1) * 2 + j - y.cells.length = k * 2 + j := by simp [It.cells]; omega
    rw [e]
    exact pairs_at ys k (by simpa using hk) j hj

/-- Where the list lies. -/
theorem Play.at {w0 w : World} {M : Nat} {lv : Value} {xs : List It} (h : Play w0 w M lv xs) : ∃ g cap, lv = .slice (some ⟨g, 0, none⟩) xs.length cap ∧ xs.length ≤ cap ∧ ∀ k (hk : k < xs.length), w.cell? ⟨g, k * 2, none⟩ = some (.pointer (some ⟨xs[k].a, 0, none⟩)) ∧ w.cell? ⟨g, k * 2 + 1, none⟩ = some (.pointer (some ⟨xs[k].r, 0, none⟩)) := by
  have h0 := h.pos
  rcases h.row.2 with ⟨_, e⟩ | ⟨g, cap, cur, rfl, _, _, hc, _⟩
  · omega
  · refine ⟨g, cap, rfl, hc, fun k hk => ?_⟩
    have hget := pairs_at xs k hk
    have c0 := h.row.cells (g := g) rfl (k * 2) (.pointer (some ⟨xs[k].a, 0, none⟩)) (by have := hget 0 (by omega); simpa [It.cells] using this)
    have c1 := h.row.cells (g := g) rfl (k * 2 + 1) (.pointer (some ⟨xs[k].r, 0, none⟩)) (by have := hget 1 (by omega); simpa [It.cells] using this)
    rw [addk, Nat.zero_add] at c0 c1
    exact ⟨c0, c1⟩

/-- What a Write to the pair x may turn. -/
def Foots (x : It) (z : Nat) : Prop := z = x.a ∨ z = x.r ∨ x.v.ownBlock = some z

theorem Play.put {w0 w w' : World} {M M' : Nat} {lv : Value} {xs : List It} (h : Play w0 w M lv xs) (k : Nat) (hk : k < xs.length) (hc : Chg (Foots xs[k]) w w') (v' : Value) (bs' : List Nat)
    (hE : Eat w' xs[k].a xs[k].s xs[k].n bs') (hR : w'.heap[xs[k].r]? = some (.cells (rcells xs[k].s xs[k].n v').toArray 47 (0, 0)))
    (hO : w'.ownsRow w0.heap.size 5 1 v' bs'.length (cells8 (up bs'))) (hm : Moved w xs[k].v v') (hb : Byt bs') (hl : bs'.length ≤ M') (hM : M ≤ M') :
    Play w0 w' M' lv (xs.set k ⟨xs[k].a, xs[k].r, xs[k].s, xs[k].n, v', bs'⟩) := by
  have hG := h.good k hk
  have hlv : ∀ g, lv.ownBlock = some g → ¬ Foots xs[k] g := fun g e f => by
    obtain ⟨cur, hcur⟩ := owns_blk h.row e
    rcases f with rfl | rfl | f
    · obtain ⟨cs, h1⟩ := hG.ab
      exact ty_ne hcur h1 (by decide)
    · exact ty_ne hcur hG.blk (by decide)
    · obtain ⟨cs, h1⟩ := hG.vb _ f
      exact ty_ne hcur h1 (by decide)
  have hcells : (xs.set k ⟨xs[k].a, xs[k].r, xs[k].s, xs[k].n, v', bs'⟩).flatMap It.cells = xs.flatMap It.cells := by
    rw [List.flatMap_def, List.flatMap_def, List.map_set]
    congr 1
    have : (xs.map It.cells)[k]? = some (It.cells ⟨xs[k].a, xs[k].r, xs[k].s, xs[k].n, v', bs'⟩) := by
      rw [List.getElem?_map, List.getElem?_eq_getElem hk]
      rfl
    exact List.ext_getElem? fun i => by
      rw [List.getElem?_set]
      split
      · rename_i e
        subst e
        rw [if_pos (by simpa using hk), this]
      · rfl
  refine ⟨h.chg.trans hc (fun z f => ?_), ?_, fun i hi => ?_, fun i j hi hj hne => ?_, ?_, ?_⟩
  · rcases f with rfl | rfl | f
    · exact .inr hG.ha
    · exact .inr hG.hr
    · exact .inr (hG.own.lt z f).1
  · rw [hcells, List.length_set]
    exact owns_keep h.row hc hlv
  · by_cases e : i = k
    · subst e
      rw [List.getElem_set_self]
      exact ⟨hE, hR, hO, hb, hG.st, hG.n64, hG.nle, hl, hG.ha, hG.hr⟩
    · have hi2 : i < xs.length := by simpa using hi
      rw [List.getElem_set_ne (fun x => e x.symm)]
      have hA := h.apart i k hi2 hk e
      have hB := h.apart k i hk hi2 (fun x => e x.symm)
      have gi := h.good i hi2
      refine (gi.keep hc ?_ ?_ ?_).more hM
      · rintro (f | f | f)
        · exact hA.1 f
        · exact gi.ar hG f
        · exact gi.av hG f
      · rintro (f | f | f)
        · exact hG.ar gi f.symm
        · exact hA.2.1 f
        · exact gi.rv hG f
      · rintro g e (rfl | rfl | f)
        · exact hG.av gi e
        · exact hG.rv gi e
        · exact hA.2.2 g e f
  · have hi2 : i < xs.length := by simpa using hi
    have hj2 : j < xs.length := by simpa using hj
    have hA := h.apart i j hi2 hj2 hne
    by_cases ei : i = k
    · subst ei
      rw [List.getElem_set_self, List.getElem_set_ne (fun x => hne x)]
      refine ⟨hA.1, hA.2.1, fun g e f => ?_⟩
      rcases hm g e with e | e
      · exact hA.2.2 g e f
      · have := (h.good j hj2).vlt g f
        omega
    · by_cases ej : j = k
      · subst ej
        rw [List.getElem_set_self, List.getElem_set_ne (fun x => ei x.symm)]
        refine ⟨hA.1, hA.2.1, fun g e f => ?_⟩
        rcases hm g f with f | f
        · exact hA.2.2 g e f
        · have := (h.good i hi2).vlt g e
          omega
      · rw [List.getElem_set_ne (fun x => ei x.symm), List.getElem_set_ne (fun x => ej x.symm)]
        exact hA
  · rw [List.length_set]; exact h.pos
  · rw [List.length_set]; exact h.most

theorem Play.push {w0 w w1 w' : World} {M : Nat} {lv v' : Value} {xs : List It} {x : It} (h : Play w0 w M lv xs) (hc : Chg (fun _ => False) w w1) (hx : Good w1 w0.heap.size M x) (ha : w.heap.size ≤ x.a) (hr : w.heap.size ≤ x.r) (hv : ∀ g, x.v.ownBlock = some g → w.heap.size ≤ g)
    (ho : w'.ownsRow w0.heap.size 39 2 v' (xs.length + 1) (xs.flatMap It.cells ++ x.cells)) (hg : w1.grownBy w' lv.ownBlock) (hl : xs.length < 6) : Play w0 w' M v' (xs ++ [x]) := by
  have h1 := h.new hc
  have hlv : ∀ g, lv.ownBlock = some g → g < w.heap.size := fun g e => (h.row.lt g e).2
  have c2 : Chg (fun z => lv.ownBlock = some z) w1 w' := (Chg.refl _ w1).grown hg (fun k e => .inl e)
  have key : ∀ y, Good w1 w0.heap.size M y → Good w' w0.heap.size M y := fun y gy => by
    refine gy.keep c2 (fun e => ?_) (fun e => ?_) (fun g e f => ?_)
    · obtain ⟨cur, hcur⟩ := owns_blk h1.row e
      obtain ⟨cs, hcs⟩ := gy.ab
      exact ty_ne hcur hcs (by decide)
    · obtain ⟨cur, hcur⟩ := owns_blk h1.row e
      exact ty_ne hcur gy.blk (by decide)
    · obtain ⟨cur, hcur⟩ := owns_blk h1.row f
      obtain ⟨cs, hcs⟩ := gy.vb _ e
      exact ty_ne hcur hcs (by decide)
  have old : ∀ i (hi : i < xs.length), Apart xs[i] x ∧ Apart x xs[i] := fun i hi => by
    have gi := h.good i hi
    have l1 := gi.alt
    have l2 := gi.rlt
    refine ⟨⟨by omega, by omega, fun g e f => ?_⟩, ⟨by omega, by omega, fun g e f => ?_⟩⟩
    · have := gi.vlt g e
      have := hv g f
      omega
    · have := gi.vlt g f
      have := hv g e
      omega
  refine ⟨h1.chg.grown hg (fun k e => .inr (h1.row.lt k e).1), ?_, fun i hi => ?_, fun i j hi hj hne => ?_, by simp, by simp; omega⟩
  · rw [List.length_append, List.flatMap_append]
    simpa using ho
  · by_cases e : i < xs.length
    · rw [List.getElem_append_left e]
      exact key _ (h1.good i e)
    · have e2 : i = xs.length := by simp at hi; omega
      subst e2
      rw [List.getElem_append_right (Nat.le_refl _)]
      simpa using key _ hx
  · by_cases ei : i < xs.length
    · by_cases ej : j < xs.length
      · rw [List.getElem_append_left ei, List.getElem_append_left ej]
        exact h.apart i j ei ej hne
      · have e2 : j = xs.length := by simp at hj; omega
        subst e2
        rw [List.getElem_append_left ei, List.getElem_append_right (Nat.le_refl _)]
        simpa using (old i ei).1
    · have e2 : i = xs.length := by simp at hi; omega
      subst e2
      have ej : j < xs.length := by simp at hj; omega
      rw [List.getElem_append_left ej, List.getElem_append_right (Nat.le_refl _)]
      simpa using (old j ej).2
end Go.Proofs.YtnedllhlmddmoabDoor
