/- Rows of both beside an encoder of both: a step in memory; of no statement by itself. -/
import Derived.Test.YtibgjpifmpljkaaOf
import Derived.Test.YtibgjpifmpljkaaTs
namespace Go.Proofs.Ytibgjpifmpljkaa
open Go.RowKit
set_option linter.unusedVariables false

/-- A block that is no row's, and none of the lists'. -/
def Far (w : World) (z : Nat) : Prop := ∃ cs t, w.heap[z]? = some (.cells cs t (0, 0)) ∧ t ≠ 70 ∧ t ≠ 81 ∧ t ≠ 105 ∧ t ≠ 3 ∧ t ≠ 23 ∧ t ≠ 83 ∧ t ≠ 58
theorem far_not {w : World} {z : Nat} {cs : Array Value} {t : TypeId} (f : Far w z) (hb : w.heap[z]? = some (.cells cs t (0, 0))) (ht : t = 70 ∨ t = 81 ∨ t = 105 ∨ t = 3 ∨ t = 23 ∨ t = 83 ∨ t = 58) : False := by
  obtain ⟨cs', t', hb', n1, n2, n3, n4, n5, n6, n7⟩ := f
  refine ty_ne hb hb' (fun e => ?_)
  subst e
  rcases ht with h | h | h | h | h | h | h
  · exact n1 h
  · exact n2 h
  · exact n3 h
  · exact n4 h
  · exact n5 h
  · exact n6 h
  · exact n7 h
theorem Enc.far {w : World} {B a : Nat} {v : Value} {e : Rc.E} (h : Enc w B a v e) {z : Nat} (f : Foot a v z) : Far w z := by
  obtain ⟨l, hl, _⟩ := h
  rcases f with f | f
  · rw [f]; exact ⟨_, _, hl.blk, by decide, by decide, by decide, by decide, by decide, by decide, by decide⟩
  · obtain ⟨cur, hcur⟩ := owns_blk hl.own f
    exact ⟨_, _, hcur, by decide, by decide, by decide, by decide, by decide, by decide, by decide⟩
theorem Re.far {w : World} {B r R k : Nat} {v : Value} {ds : List Nat} (h : Re w B r v ds R k) {z : Nat} (f : Foot r v z) : Far w z := by
  rcases f with f | f
  · rw [f]; exact ⟨_, _, h.blk, by decide, by decide, by decide, by decide, by decide, by decide, by decide⟩
  · obtain ⟨cur, hcur⟩ := owns_blk h.own f
    exact ⟨_, _, hcur, by decide, by decide, by decide, by decide, by decide, by decide, by decide⟩
theorem Re.foot_lt {w : World} {B r R k : Nat} {y : Value} {ds : List Nat} (h : Re w B r y ds R k) {z : Nat} (f : Foot r y z) : B ≤ z ∧ z < w.heap.size := by
  rcases f with rfl | f
  · exact ⟨h.hr, h.lt⟩
  · exact h.own.lt z f
theorem Re.dkeep {w w' : World} {S : Nat → Prop} {B r R k : Nat} {y : Value} {ds : List Nat} (h : Re w B r y ds R k) (hc : Chg S w w') (hd : Dis S (Foot r y)) : Re w' B r y ds R k :=
  h.keep hc (fun f => hd r f (.inl rfl)) (fun g e f => hd g f (.inr e))

/-- A row put, and blocks far away changed. -/
def It.to (x : It) (xs : List Int) : It := ⟨x.a, x.r, x.v, x.n, x.u, xs⟩
theorem Play.putE {w0 w w' : World} {P : Nat} {av bv : Value} {its : List It} (h : Play w0 w P av bv its) (k : Nat) (hk : k < its.length) {S : Nat → Prop} (hc : Chg S w w') (hS : ∀ z, S z → Foots its[k] z ∨ Far w z) (hS0 : ∀ z, S z → w0.heap.size ≤ z) (xs' : List Int)
    (hG' : Good w' w0.heap.size (its[k].to xs')) : Play w0 w' P av bv (its.set k (its[k].to xs')) := by
  have hG := h.good k hk
  have miss : ∀ {z : Nat} {cs : Array Value} {t : TypeId}, S z → w.heap[z]? = some (.cells cs t (0, 0)) → (t = 70 ∨ t = 105 ∨ t = 23 ∨ t = 83 ∨ t = 58) → False := fun {z cs t} f hb ht => by
    rcases hS z f with f | f
    · refine hG.foot f hb ?_ ?_
      · rcases ht with h | h | h | h | h <;> rw [h] <;> decide
      · rcases ht with h | h | h | h | h <;> rw [h] <;> decide
    · refine far_not f hb ?_
      rcases ht with h | h | h | h | h
      · exact .inl h
      · exact .inr (.inr (.inl h))
      · exact .inr (.inr (.inr (.inr (.inl h))))
      · exact .inr (.inr (.inr (.inr (.inr (.inl h)))))
      · exact .inr (.inr (.inr (.inr (.inr (.inr h)))))
  have mA : (its.set k (its[k].to xs')).map ptrA = its.map ptrA := by
    rw [List.map_set]
    exact List.ext_getElem? fun i => by
      rw [List.getElem?_set]
      split
      · rename_i e
        subst e
        rw [if_pos (by simpa using hk), List.getElem?_map, List.getElem?_eq_getElem hk]
        rfl
      · rfl
  have mR : (its.set k (its[k].to xs')).map ptrR = its.map ptrR := by
    rw [List.map_set]
    exact List.ext_getElem? fun i => by
      rw [List.getElem?_set]
      split
      · rename_i e
        subst e
        rw [if_pos (by simpa using hk), List.getElem?_map, List.getElem?_eq_getElem hk]
        rfl
      · rfl
  refine ⟨h.chg.trans hc (fun z f => .inr (hS0 z f)), h.hP, blk_keep h.pair hc (fun f => miss f h.pair (.inr (.inr (.inr (.inr rfl))))), ?_, ?_, fun i hi => ?_, fun i j hi hj hne => ?_⟩
  · rw [mA, List.length_set]
    exact ownsRow_keep h.ra hc (fun g e f => by obtain ⟨cur, hcur⟩ := owns_blk h.ra e; exact miss f hcur (.inr (.inr (.inl rfl))))
  · rw [mR, List.length_set]
    exact ownsRow_keep h.rb hc (fun g e f => by obtain ⟨cur, hcur⟩ := owns_blk h.rb e; exact miss f hcur (.inr (.inr (.inr (.inl rfl)))))
  · by_cases e : i = k
    · subst e
      rw [List.getElem_set_self]
      exact hG'
    · have hi2 : i < its.length := by simpa using hi
      rw [List.getElem_set_ne (fun x => e x.symm)]
      have hA := h.apart i k hi2 hk e
      have gi := h.good i hi2
      refine gi.keep hc (fun f => miss f gi.st.blk (.inl rfl)) (fun f => miss f gi.rt.blk (.inr (.inl rfl))) (fun g e f => ?_) (fun g e f => ?_)
      · obtain ⟨c1, h1⟩ := gi.vb e
        rcases hS g f with (f | f) | f
        · exact hA.2.2.1 g e f
        · obtain ⟨c2, h2⟩ := hG.ub f
          exact ty_ne h1 h2 (by decide)
        · exact far_not f h1 (.inr (.inl rfl))
      · obtain ⟨c1, h1⟩ := gi.ub e
        rcases hS g f with (f | f) | f
        · obtain ⟨c2, h2⟩ := hG.vb f
          exact ty_ne h1 h2 (by decide)
        · exact hA.2.2.2 g e f
        · exact far_not f h1 (.inr (.inr (.inr (.inl rfl))))
  · have hi2 : i < its.length := by simpa using hi
    have hj2 : j < its.length := by simpa using hj
    have hA := h.apart i j hi2 hj2 hne
    by_cases ei : i = k
    · subst ei
      rw [List.getElem_set_self, List.getElem_set_ne (fun x => hne x)]
      exact hA
    · by_cases ej : j = k
      · subst ej
        rw [List.getElem_set_self, List.getElem_set_ne (fun x => ei x.symm)]
        exact hA
      · rw [List.getElem_set_ne (fun x => ei x.symm), List.getElem_set_ne (fun x => ej x.symm)]
        exact hA

/-- The encoders of both beside the rows of both. -/
structure Cod (w0 w : World) (P : Nat) (av bv : Value) (its : List It) (a r : Nat) (v y : Value) (e : Rc.E) : Prop where
  play : Play w0 w P av bv its
  enc : Enc w w0.heap.size a v e
  re : Re w w0.heap.size r y (Rc.by_ e) e.R e.k
  ok : Rc.Ok e
  inn : ∀ i (h : i < its.length), In31 its[i].xs
  dis : Dis (Foot a v) (Foot r y)
theorem Cod.new {w0 w w' : World} {P : Nat} {av bv : Value} {its : List It} {a r : Nat} {v y : Value} {e : Rc.E} (h : Cod w0 w P av bv its a r v y e) (hc : Chg (fun _ => False) w w') : Cod w0 w' P av bv its a r v y e :=
  ⟨h.play.new hc, h.enc.new hc, h.re.new hc, h.ok, h.inn, h.dis⟩
/-- What a step may change: the program's side, both. -/
def SideP (a : Nat) (v : Value) (x : It) (z : Nat) : Prop := Foot a v z ∨ x.v.ownBlock = some z
def SideR (r : Nat) (y : Value) (x : It) (z : Nat) : Prop := Foot r y z ∨ x.u.ownBlock = some z
theorem Cod.apart {w0 w : World} {P : Nat} {av bv : Value} {its : List It} {a r : Nat} {v y : Value} {e : Rc.E} (h : Cod w0 w P av bv its a r v y e) (k : Nat) (hk : k < its.length) : ∀ z, SideP a v its[k] z → ¬ Foot r y z ∧ z ≠ its[k].r ∧ its[k].u.ownBlock ≠ some z := fun z f => by
  have hG := h.play.good k hk
  rcases f with f | f
  · have hf := h.enc.far f
    refine ⟨fun g => h.dis z f g, fun g => ?_, fun g => ?_⟩
    · rw [g] at hf; exact far_not hf hG.rt.blk (.inr (.inr (.inl rfl)))
    · obtain ⟨cs, hcs⟩ := hG.ub g; exact far_not hf hcs (.inr (.inr (.inr (.inl rfl))))
  · obtain ⟨cs, hcs⟩ := hG.vb f
    refine ⟨fun g => far_not (h.re.far g) hcs (.inr (.inl rfl)), fun g => ?_, fun g => ?_⟩
    · rw [g] at hcs; exact ty_ne hcs hG.rt.blk (by decide)
    · obtain ⟨cs2, hcs2⟩ := hG.ub g; exact ty_ne hcs hcs2 (by decide)
theorem Cod.apartR {w0 w : World} {P : Nat} {av bv : Value} {its : List It} {a r : Nat} {v y : Value} {e : Rc.E} (h : Cod w0 w P av bv its a r v y e) (k : Nat) (hk : k < its.length) : ∀ z, SideR r y its[k] z → ¬ Foot a v z ∧ z ≠ its[k].a ∧ its[k].v.ownBlock ≠ some z := fun z f => by
  have hG := h.play.good k hk
  rcases f with f | f
  · have hf := h.re.far f
    refine ⟨fun g => h.dis z g f, fun g => ?_, fun g => ?_⟩
    · rw [g] at hf; exact far_not hf hG.st.blk (.inl rfl)
    · obtain ⟨cs, hcs⟩ := hG.vb g; exact far_not hf hcs (.inr (.inl rfl))
  · obtain ⟨cs, hcs⟩ := hG.ub f
    refine ⟨fun g => far_not (h.enc.far g) hcs (.inr (.inr (.inr (.inl rfl)))), fun g => ?_, fun g => ?_⟩
    · rw [g] at hcs; exact ty_ne hcs hG.st.blk (by decide)
    · obtain ⟨cs2, hcs2⟩ := hG.vb g; exact ty_ne hcs hcs2 (by decide)
/-- Behind the program's step, the document's side stands as it did. -/
theorem Cod.side {w0 w w1 : World} {P : Nat} {av bv : Value} {its : List It} {a r : Nat} {v y : Value} {e : Rc.E} (h : Cod w0 w P av bv its a r v y e) (k : Nat) (hk : k < its.length) (hc : Chg (SideP a v its[k]) w w1) :
    Re w1 w0.heap.size r y (Rc.by_ e) e.R e.k ∧ Rt w1 w0.heap.size its[k].r its[k].n its[k].u its[k].xs := by
  have hA := h.apart k hk
  exact ⟨h.re.dkeep hc (fun z f g => (hA z f).1 g), (h.play.good k hk).rt.keep hc (fun f => (hA _ f).2.1 rfl) (fun g e f => (hA g f).2.2 e)⟩
/-- Both behind a step. -/
theorem Cod.done {w0 w w1 w2 : World} {P : Nat} {av bv : Value} {its : List It} {a r : Nat} {v y v' y' : Value} {e e' : Rc.E} (h : Cod w0 w P av bv its a r v y e) (k : Nat) (hk : k < its.length) (xs' : List Int) (hc : Chg (SideP a v its[k]) w w1) (hE : Enc w1 w0.heap.size a v' e') (hS : St w1 w0.heap.size its[k].a its[k].v xs') (hm : Moved w v v')
    (hc2 : Chg (SideR r y its[k]) w1 w2) (hR : Re w2 w0.heap.size r y' (Rc.by_ e') e'.R e'.k) (hT : Rt w2 w0.heap.size its[k].r its[k].n its[k].u xs') (hm2 : Moved w1 y y') (hO : Rc.Ok e') (hI : In31 xs') (hl : xs'.length = its[k].xs.length) :
    Cod w0 w2 P av bv (its.set k (its[k].to xs')) a r v' y' e' := by
  have hA := h.apart k hk
  have hB := h.apartR k hk
  have hG := h.play.good k hk
  have hBw : ∀ z, SideR r y its[k] z → z < w.heap.size := fun z f => by
    rcases f with f | f
    · exact (h.re.foot_lt f).2
    · exact (hG.rt.own.lt z f).2
  have hE2 : Enc w2 w0.heap.size a v' e' := hE.keep hc2 (fun z f g => by
    rcases hm.foot a z g with g | g
    · exact (hB z f).1 g
    · have := hBw z f; omega)
  have hS2 : St w2 w0.heap.size its[k].a its[k].v xs' := hS.keep hc2 (fun f => (hB _ f).2.1 rfl) (fun g e f => (hB g f).2.2 e)
  have hcc : Chg (fun z => SideP a v its[k] z ∨ SideR r y its[k] z) w w2 := (hc.mono (T := fun z => SideP a v its[k] z ∨ SideR r y its[k] z) (fun z f => .inl (.inl f))).trans hc2 (fun z f => .inl (.inr f))
  refine ⟨h.play.putE k hk hcc (fun z f => ?_) (fun z f => ?_) xs' ⟨hS2, hT, hI.inn, by show xs'.length ≤ _; rw [hl]; exact hG.len⟩, hE2, hR, hO, fun i hi => ?_, ?_⟩
  · rcases f with (f | f) | (f | f)
    · exact .inr (h.enc.far f)
    · exact .inl (.inl f)
    · exact .inr (h.re.far f)
    · exact .inl (.inr f)
  · rcases f with (f | f) | (f | f)
    · exact (h.enc.foot_lt f).1
    · exact (hG.st.own.lt z f).1
    · exact (h.re.foot_lt f).1
    · exact (hG.rt.own.lt z f).1
  · by_cases ei : i = k
    · subst ei
      rw [List.getElem_set_self]
      exact hI
    · rw [List.getElem_set_ne (fun x => ei x.symm)]
      exact h.inn i (by simpa using hi)
  · intro z f g
    have s1 := hc.size
    rcases hm.foot a z f with f' | f'
    · rcases hm2.foot r z g with g' | g'
      · exact h.dis z f' g'
      · have := (h.enc.foot_lt f').2; omega
    · rcases hm2.foot r z g with g' | g'
      · have := (h.re.foot_lt g').2; omega
      · have := (hE.foot_lt f).2; omega
end Go.Proofs.Ytibgjpifmpljkaa
