/- TreeBack under way: rows of two families, an encoder, the list of what was taken; then a decoder; of no statement by itself. -/
import Derived.Test.YtibgjpifmpljkaaTbn
import Derived.Test.YtibgjpifmpljkaaOpenT
import Derived.Test.YtibgjpifmpljkaaPg
namespace Go.Proofs.Ytibgjpifmpljkaa
open Go.RowKit
set_option linter.unusedVariables false

theorem infoOp : (Try.prog.info? 50).map (fun i => (i.zero, i.size, i.bytes)) = some (some (.agg #[.int .i64 0, .int .i64 0, .int .i64 0, .int .i64 0, .int .i64 0]), 5, 40) := by kernel_rfl
theorem form5 {w : World} {B : Nat} {lv : Value} {n : Nat} {xs : List Value} (h : w.ownsRow B 50 5 lv n xs) : ∃ a c, lv = .slice a n c := by
  rcases h.2 with ⟨rfl, rfl⟩ | ⟨g, cap, cur, rfl, _⟩
  · exact ⟨none, 0, rfl⟩
  · exact ⟨_, cap, rfl⟩
theorem from_five (w : World) (x0 x1 x2 x3 x4 : Value) (t : TypeId) : From (w.alloc (.cells #[x0, x1, x2, x3, x4] t)) (some ⟨w.heap.size, 0, none⟩) 1 1 5 [x0, x1, x2, x3, x4] := by
  refine ⟨rfl, .inr ⟨_, rfl, fun j u hu => ?_⟩⟩
  have hb : (w.alloc (.cells #[x0, x1, x2, x3, x4] t)).heap[w.heap.size]? = some (.cells #[x0, x1, x2, x3, x4] t (0, 0)) := heap_alloc_last _ _
  obtain ⟨q0, q1, q2, q3, q4, _⟩ := cells5 hb
  match j, hu with
  | 0, hu => simp at hu; subst hu; rw [addk]; exact q0
  | 1, hu => simp at hu; subst hu; rw [addk]; exact q1
  | 2, hu => simp at hu; subst hu; rw [addk]; exact q2
  | 3, hu => simp at hu; subst hu; rw [addk]; exact q3
  | 4, hu => simp at hu; subst hu; rw [addk]; exact q4
theorem flat5_len : ∀ l : List Stp, (l.flatMap Stp.cells).length = l.length * 5
  | [] => rfl
  | y :: ys => by rw [List.flatMap_cons, List.length_append, flat5_len ys]; simp [Stp.cells]; omega
theorem flat5_at : ∀ (l : List Stp) (k : Nat) (x : Stp) (j : Nat), l[k]? = some x → j < 5 → (l.flatMap Stp.cells)[k * 5 + j]? = x.cells[j]?
  | [], k, q, j, h, _ => by simp at h
  | y :: ys, 0, q, j, h, hj => by
    rw [List.flatMap_cons, List.getElem?_append_left (by simp [Stp.cells]; omega)]
    simp at h
    subst h
    simp
  | y :: ys, k + 1, q, j, h, hj => by
    rw [List.flatMap_cons, List.getElem?_append_right (by simp [Stp.cells]; omega)]
    have e : (k + 1) * 5 + j - y.cells.length = k * 5 + j := by simp [Stp.cells]; omega
    rw [e]
    exact flat5_at ys k q j (by simpa using h) hj
/-- A step of a list of one's own. -/
theorem op_own {w : World} {B : Nat} {ad : Option Addr} {n c : Nat} {l : List Stp} {k : Nat} {o : Stp} (h : w.ownsRow B 50 5 (.slice ad n c) n (l.flatMap Stp.cells)) (hk : l[k]? = some o) : ∃ g, ad = some ⟨g, 0, none⟩ ∧ w.cell? ⟨g, k * 5, none⟩ = some (.int .i64 o.kd) ∧ w.cell? ⟨g, k * 5 + 1, none⟩ = some (.int .i64 o.row) ∧ w.cell? ⟨g, k * 5 + 2, none⟩ = some (.int .i64 o.p) ∧ w.cell? ⟨g, k * 5 + 3, none⟩ = some (.int .i64 o.n) ∧ w.cell? ⟨g, k * 5 + 4, none⟩ = some (.int .i64 o.x) := by
  rcases h.2 with ⟨e0, e1⟩ | ⟨g, cap, cur, e0, _, hb, _, _, _, ht⟩
  · have h1 := h.1
    have h2 := (List.getElem?_eq_some_iff.1 hk).1
    have h3 := flat5_len l
    omega
  · cases e0
    have key : ∀ j v, j < 5 → o.cells[j]? = some v → w.cell? ⟨g, k * 5 + j, none⟩ = some v := fun j v hj hv => by
      have h1 := flat5_at l k o j hk hj
      rw [← ht, hv] at h1
      have h2 : cur.toList[k * 5 + j]? = some v := by
        rw [List.getElem?_take] at h1
        split at h1
        · exact h1
        · cases h1
      simp only [World.cell?, hb]
      simpa using h2
    exact ⟨g, rfl, key 0 _ (by omega) rfl, key 1 _ (by omega) rfl, key 2 _ (by omega) rfl, key 3 _ (by omega) rfl, key 4 _ (by omega) rfl⟩

theorem stepR_lens (o : Stp) (e : Rc.E) (R : List (List Int)) : (stepR o e R).2.map List.length = R.map List.length := by
  unfold stepR
  rw [List.map_set]
  apply List.ext_getElem?
  intro i
  rw [List.getElem?_set]
  split
  · rename_i h
    subst h
    split
    · rename_i h2
      rw [List.length_map] at h2
      rw [way_len 0, List.getElem?_map, List.getElem?_eq_getElem h2, List.getD_eq_getElem?_getD, List.getElem?_eq_getElem h2]
      rfl
    · rename_i h2
      rw [List.getElem?_eq_none (by omega)]
  · rfl
theorem lens_len {R R' : List (List Int)} (h : R'.map List.length = R.map List.length) : R'.length = R.length := by
  have := congrArg List.length h
  rwa [List.length_map, List.length_map] at this
theorem lens_at {R R' : List (List Int)} (h : R'.map List.length = R.map List.length) (k : Nat) : (R'.getD k []).length = (R.getD k []).length := by
  have h2 := congrArg (fun l : List Nat => l[k]?) h
  simp only [List.getElem?_map] at h2
  rw [List.getD_eq_getElem?_getD, List.getD_eq_getElem?_getD]
  cases h3 : R'[k]? <;> cases h4 : R[k]? <;> rw [h3, h4] at h2 <;> simp at h2
  · exact h2
theorem map_getD (its : List It) (k : Nat) (hk : k < its.length) : (its.map It.xs).getD k [] = its[k].xs := by rw [List.getD_eq_getElem?_getD, List.getElem?_map, List.getElem?_eq_getElem hk]; rfl
theorem map_setx (its : List It) (k : Nat) (hk : k < its.length) (xs' : List Int) : (its.set k (its[k].to xs')).map It.xs = (its.map It.xs).set k xs' := by rw [List.map_set]; rfl
theorem stepR_its (o : Stp) (e : Rc.E) (its : List It) (k : Nat) (hk : k < its.length) (hkk : ofN its.length o.row = k) : stepR o e (its.map It.xs) = ((encL o.qs e its[k].xs).1, (its.set k (its[k].to (encL o.qs e its[k].xs).2)).map It.xs) := by
  unfold stepR
  rw [List.length_map, hkk, map_getD its k hk, map_setx its k hk]
theorem sts_all {w : World} {B H P : Nat} {av bv : Value} {its : List It} (h : Sts w B H P av bv its) : All31 (its.map It.xs) := fun xs hx => by
  obtain ⟨x, hx1, rfl⟩ := List.mem_map.1 hx
  obtain ⟨i, hi, rfl⟩ := List.getElem_of_mem hx1
  exact h.inn i hi

/-- While steps are given. -/
structure Tb1 (w0 wr : World) (H1 H2 P1 P2 : Nat) (av1 bv1 av2 bv2 : Value) (its1 its2 : List It) (a : Nat) (v : Value) (e : Rc.E) (lv : Value) (l : List Stp) (R0 : List (List Int)) (i : Nat) : Prop where
  hs : w0.heap.size ≤ H1 ∧ H1 ≤ H2 ∧ H2 ≤ wr.heap.size
  s1 : Sts wr w0.heap.size H1 P1 av1 bv1 its1
  s2 : Sts wr H1 H2 P2 av2 bv2 its2
  enc : Enc wr w0.heap.size a v e
  ok : Rc.Ok e
  far : ∀ z, Foot a v z → H2 ≤ z
  own : wr.ownsRow H2 50 5 lv l.length (l.flatMap Stp.cells)
  run : runR l Rc.start R0 = (e, its1.map It.xs)
  rows : its2.map It.xs = R0
  lens : (its1.map It.xs).map List.length = R0.map List.length
  tk : ∀ o ∈ l, o.I ∧ o.taken (R0.getD (ofN R0.length o.row) []).length
  k : e.k ≤ 16 * i
  n : l.length ≤ i
  chg : Chg (fun _ => False) w0 wr
theorem Tb1.len {w0 wr : World} {H1 H2 P1 P2 : Nat} {av1 bv1 av2 bv2 : Value} {its1 its2 : List It} {a : Nat} {v : Value} {e : Rc.E} {lv : Value} {l : List Stp} {R0 : List (List Int)} {i : Nat} (h : Tb1 w0 wr H1 H2 P1 P2 av1 bv1 av2 bv2 its1 its2 a v e lv l R0 i) : its1.length = R0.length := by
  have := lens_len h.lens
  rwa [List.length_map] at this
theorem Tb1.new {w0 wr w' : World} {H1 H2 P1 P2 : Nat} {av1 bv1 av2 bv2 : Value} {its1 its2 : List It} {a : Nat} {v : Value} {e : Rc.E} {lv : Value} {l : List Stp} {R0 : List (List Int)} {i : Nat} (h : Tb1 w0 wr H1 H2 P1 P2 av1 bv1 av2 bv2 its1 its2 a v e lv l R0 i) (c : Chg (fun _ => False) wr w') : Tb1 w0 w' H1 H2 P1 P2 av1 bv1 av2 bv2 its1 its2 a v e lv l R0 i :=
  ⟨⟨h.hs.1, h.hs.2.1, Nat.le_trans h.hs.2.2 c.size⟩, h.s1.new c, h.s2.new c, h.enc.new c, h.ok, h.far, own_keep2 h.own c (fun _ _ f => f), h.run, h.rows, h.lens, h.tk, h.k, h.n, chg_then h.chg c⟩
theorem sideP_far {w : World} {B H P : Nat} {av bv : Value} {its : List It} {a : Nat} {v : Value} {H2 : Nat} (h : Sts w B H P av bv its) (hf : ∀ z, Foot a v z → H2 ≤ z) (k : Nat) (hk : k < its.length) (z : Nat) (f : SideP a v its[k] z) : (B ≤ z ∧ z < H) ∨ H2 ≤ z := by
  rcases f with f | f
  · exact .inr (hf z f)
  · exact .inl ⟨((h.st k hk).own.lt z f).1, (h.hst k hk).2 z f⟩
/-- Behind a step that was given, whatever became of the first family and of the encoder. -/
theorem Tb1.beside {w0 wr w5 : World} {H1 H2 P1 P2 : Nat} {av1 bv1 av2 bv2 : Value} {its1 its2 : List It} {a : Nat} {v v' : Value} {e : Rc.E} {lv : Value} {l : List Stp} {R0 : List (List Int)} {i : Nat} (h : Tb1 w0 wr H1 H2 P1 P2 av1 bv1 av2 bv2 its1 its2 a v e lv l R0 i) (k : Nat) (hk : k < its1.length) (c5 : Chg (SideP a v its1[k]) wr w5) (m5 : Moved wr v v') :
    H2 ≤ w5.heap.size ∧ Sts w5 H1 H2 P2 av2 bv2 its2 ∧ (∀ z, Foot a v' z → H2 ≤ z) ∧ w5.ownsRow H2 50 5 lv l.length (l.flatMap Stp.cells) ∧ Chg (fun _ => False) w0 w5 := by
  have hs := h.hs
  have hz := c5.size
  refine ⟨by omega, h.s2.keep c5 (fun z f => ?_), fun z f => ?_, own_keep2 h.own c5 (fun g eg f => ?_), h.chg.trans c5 (fun z f => ?_)⟩
  · rcases sideP_far h.s1 h.far k hk z f with ⟨_, q⟩ | q
    · exact .inl q
    · exact .inr q
  · rcases m5.foot a z f with q | q
    · exact h.far z q
    · omega
  · obtain ⟨cur, hcur⟩ := owns_blk h.own eg
    exact fp_ne h.enc (h.s1.st k hk) hcur (by decide) (by decide) (by decide) f
  · rcases sideP_far h.s1 h.far k hk z f with ⟨q, _⟩ | q
    · exact .inr q
    · exact .inr (by omega)
theorem Tb1.refused {w0 wr w5 : World} {H1 H2 P1 P2 : Nat} {av1 bv1 av2 bv2 : Value} {its1 its2 : List It} {a : Nat} {v v' : Value} {e : Rc.E} {lv : Value} {l : List Stp} {R0 : List (List Int)} {i : Nat} (h : Tb1 w0 wr H1 H2 P1 P2 av1 bv1 av2 bv2 its1 its2 a v e lv l R0 i) (k : Nat) (hk : k < its1.length) (c5 : Chg (SideP a v its1[k]) wr w5) (m5 : Moved wr v v') (hs1 : Sts w5 w0.heap.size H1 P1 av1 bv1 its1) (hE : Enc w5 w0.heap.size a v' e) : Tb1 w0 w5 H1 H2 P1 P2 av1 bv1 av2 bv2 its1 its2 a v' e lv l R0 (i + 1) := by
  obtain ⟨q1, q2, q3, q4, q5⟩ := h.beside k hk c5 m5
  exact ⟨⟨h.hs.1, h.hs.2.1, q1⟩, hs1, q2, hE, h.ok, q3, q4, h.run, h.rows, h.lens, h.tk, by have := h.k; omega, by have := h.n; omega, q5⟩
/-- Taken; the list has grown by it. -/
theorem Tb1.took {w0 wr w5 w6 w9 : World} {H1 H2 P1 P2 : Nat} {av1 bv1 av2 bv2 : Value} {its1 its2 : List It} {a : Nat} {v v' : Value} {e : Rc.E} {lv lv9 : Value} {l : List Stp} {R0 : List (List Int)} {i : Nat} (h : Tb1 w0 wr H1 H2 P1 P2 av1 bv1 av2 bv2 its1 its2 a v e lv l R0 i) (o : Stp) (hoI : o.I) (k : Nat) (hk : k < its1.length) (hkk : ofN its1.length o.row = k) (ht : o.taken its1[k].xs.length) (c5 : Chg (SideP a v its1[k]) wr w5) (m5 : Moved wr v v') (hs1 : Sts w5 w0.heap.size H1 P1 av1 bv1 (its1.set k (its1[k].to (encL o.qs e its1[k].xs).2))) (hE : Enc w5 w0.heap.size a v' (encL o.qs e its1[k].xs).1)
    (c6 : Chg (fun _ => False) w5 w6) (ho9 : w9.ownsRow H2 50 5 lv9 (l.length + 1) (l.flatMap Stp.cells ++ o.cells)) (hg9 : w6.grownBy w9 lv.ownBlock) :
    Tb1 w0 w9 H1 H2 P1 P2 av1 bv1 av2 bv2 (its1.set k (its1[k].to (encL o.qs e its1[k].xs).2)) its2 a v' (encL o.qs e its1[k].xs).1 lv9 (l ++ [o]) R0 (i + 1) := by
  obtain ⟨q1, q2, q3, q4, q5⟩ := h.beside k hk c5 m5
  have hI := h.s1.inn k hk
  have hg := goes_step h.ok hI ht
  have c9 : Chg (fun z => lv.ownBlock = some z) w5 w9 := (c6.mono (fun _ f => f.elim)).grown hg9 (fun z e => .inl e)
  have hB : ∀ z, lv.ownBlock = some z → H2 ≤ z := fun z eg => (h.own.lt z eg).1
  have hs := h.hs
  have hz9 := c9.size
  have hst := stepR_its o e its1 k hk hkk
  refine ⟨⟨hs.1, hs.2.1, by omega⟩, hs1.keep c9 (fun z f => .inr (by have := hB z f; omega)), q2.keep c9 (fun z f => .inr (hB z f)), hE.keep c9 (fun z f g => ?_), hg.ok, q3, ?_, ?_, h.rows, ?_, fun o' ho' => ?_, by have := h.k; have := hg.k; omega, by rw [List.length_append, List.length_singleton]; have := h.n; omega, q5.trans c9 (fun z f => .inr (by have := hB z f; omega))⟩
  · obtain ⟨cur, hcur⟩ := owns_blk q4 f
    exact fp_ne hE (hs1.st k (by rw [List.length_set]; exact hk)) hcur (by decide) (by decide) (by decide) (.inl g)
  · rw [List.length_append, List.length_singleton, List.flatMap_append, List.flatMap_singleton]
    exact ho9
  · rw [runR_append, h.run, hst]
  · rw [← h.lens, ← stepR_lens o e (its1.map It.xs), hst]
  · rcases List.mem_append.1 ho' with f | f
    · exact h.tk o' f
    · rw [List.mem_singleton.1 f]
      refine ⟨hoI, ?_⟩
      have h1 := lens_at h.lens k
      rw [map_getD its1 k hk] at h1
      rw [← h.len, hkk, ← h1]
      exact ht

/-- While steps are got. -/
structure Tb2 (Dec : World → Nat → Nat → Value → List Nat → Rc.D → Prop) (w0 wr : World) (H1 H2 P1 P2 : Nat) (av1 bv1 av2 bv2 : Value) (its1 its2 : List It) (b : Nat) (u : Value) (F : Rc.E) (d : Rc.D) (lv : Value) (l : List Stp) (R0 : List (List Int)) (j : Nat) : Prop where
  hs : w0.heap.size ≤ H1 ∧ H1 ≤ H2 ∧ H2 ≤ wr.heap.size
  s1 : Sts wr w0.heap.size H1 P1 av1 bv1 its1
  s2 : Sts wr H1 H2 P2 av2 bv2 its2
  dec : Dec wr H1 b u (Rc.by_ F) d
  okd : OkD (Rc.by_ F) d
  far : H2 ≤ b
  own : wr.ownsRow H2 50 5 lv l.length (l.flatMap Stp.cells)
  at_ : ∃ e, Rc.Ok e ∧ Rc.Tracks e F d ∧ runR (l.drop j) e (its2.map It.xs) = (F, its1.map It.xs)
  lens : (its2.map It.xs).map List.length = R0.map List.length
  tk : ∀ o ∈ l, o.I ∧ o.taken (R0.getD (ofN R0.length o.row) []).length
  chg : Chg (fun _ => False) w0 wr
theorem Tb2.len {Dec : World → Nat → Nat → Value → List Nat → Rc.D → Prop} {w0 wr : World} {H1 H2 P1 P2 : Nat} {av1 bv1 av2 bv2 : Value} {its1 its2 : List It} {b : Nat} {u : Value} {F : Rc.E} {d : Rc.D} {lv : Value} {l : List Stp} {R0 : List (List Int)} {j : Nat} (h : Tb2 Dec w0 wr H1 H2 P1 P2 av1 bv1 av2 bv2 its1 its2 b u F d lv l R0 j) : its2.length = R0.length := by
  have := lens_len h.lens
  rwa [List.length_map] at this
theorem by_dig (F : Rc.E) : Rc.Dig (Rc.by_ F) := fun x hx => Rc.dg_dig _ _ x hx
theorem by_begins (F : Rc.E) : Rc.Begins F (Rc.by_ F) := by have := Rc.begins_by F []; rwa [List.append_nil] at this
theorem Tb2.step {Dec : World → Nat → Nat → Value → List Nat → Rc.D → Prop} (S : DecSpec Dec) (G : TreeGet Dec) {w0 wr : World} {H1 H2 P1 P2 : Nat} {av1 bv1 av2 bv2 : Value} {its1 its2 : List It} {b : Nat} {u : Value} {F : Rc.E} {d : Rc.D} {lv : Value} {l : List Stp} {R0 : List (List Int)} {j : Nat} (h : Tb2 Dec w0 wr H1 H2 P1 P2 av1 bv1 av2 bv2 its1 its2 b u F d lv l R0 j) (hF : Rc.Ok F) (hFk : F.k + 5 ≤ 140737488355328) (hR : 0 < R0.length) (o : Stp) (ho : l[j]? = some o) :
    Calls Try.prog 25 #[.pointer (some ⟨P2, 0, none⟩), .pointer (some ⟨b, 0, none⟩), .agg #[.int .i64 o.kd, .int .i64 o.row, .int .i64 o.p, .int .i64 o.n, .int .i64 o.x]] wr fun z w' => z = .returned (.bool true) ∧ ∃ its2' d', Tb2 Dec w0 w' H1 H2 P1 P2 av1 bv1 av2 bv2 its1 its2' b u F d' lv l R0 (j + 1) := by
  obtain ⟨e, hO, htr, hrun⟩ := h.at_
  obtain ⟨hoI, htk⟩ := h.tk o (List.mem_of_getElem? ho)
  have hlt := ofN_lt (n := its2.length) (by rw [h.len]; exact hR) o.row
  obtain ⟨k, hkk⟩ : ∃ k, ofN its2.length o.row = k := ⟨_, rfl⟩
  rw [hkk] at hlt
  have hst := stepR_its o e its2 k hlt hkk
  have hrun2 := hrun
  rw [runR_drop ho, hst] at hrun2
  have hI := sts_all h.s2
  have hstep := stepR_ok (o := o) hO hI
  rw [hst] at hstep
  have hw : Rc.Within (encL o.qs e its2[k].xs).1 F := by
    have h9 := (runR_ok (l.drop (j + 1)) hstep.2.1 hstep.2.2).1
    rw [hrun2] at h9
    exact h9
  have htk2 : o.taken its2[k].xs.length := by
    have h1 := lens_at h.lens k
    rw [map_getD its2 k hlt] at h1
    rw [← h.len, hkk, ← h1] at htk
    exact htk
  have hlb : (Rc.by_ F).length = F.k + 5 := Rc.dg_len _ _
  have hs := h.hs
  obtain ⟨d', k1, k2, hc⟩ := got_any S G wr H1 H2 P2 av2 bv2 its2 b u (Rc.by_ F) d e F o k hlt hkk h.s2 h.dec h.far (by omega) h.okd (by_dig F) (by rw [hlb]; exact hFk) (by_begins F) (by have := hF.lo; omega) hO htr hw htk2 hoI
  refine hc.mono ?_
  rintro z w' ⟨hz, r1, r2, r3⟩
  have hfar : ∀ z, Fd b its2[k].v z → H1 ≤ z := fun z f => by
    rcases f with f | f
    · have := h.far; omega
    · exact ((h.s2.st k hlt).own.lt z f).1
  have hz' := r3.size
  refine ⟨hz, _, d', ⟨hs.1, hs.2.1, by omega⟩, h.s1.keep r3 (fun z f => .inr (hfar z f)), r1, r2, k1, h.far, own_keep2 h.own r3 (fun g eg f => ?_), ⟨_, hstep.2.1, k2, hrun2⟩, ?_, h.tk, h.chg.trans r3 (fun z f => .inr (by have := hfar z f; omega))⟩
  · obtain ⟨cur, hcur⟩ := owns_blk h.own eg
    exact fd_ne S h.dec (h.s2.st k hlt) hcur (by decide) (by decide) f
  · rw [← h.lens, ← stepR_lens o e (its2.map It.xs), hst]
/-- All are got. -/
theorem Tb2.all {Dec : World → Nat → Nat → Value → List Nat → Rc.D → Prop} {w0 wr : World} {H1 H2 P1 P2 : Nat} {av1 bv1 av2 bv2 : Value} {its1 its2 : List It} {b : Nat} {u : Value} {F : Rc.E} {d : Rc.D} {lv : Value} {l : List Stp} {R0 : List (List Int)} (h : Tb2 Dec w0 wr H1 H2 P1 P2 av1 bv1 av2 bv2 its1 its2 b u F d lv l R0 l.length) : its2.map It.xs = its1.map It.xs ∧ d.n = (Rc.by_ F).length ∧ d.C = 0 := by
  obtain ⟨e, hO, htr, hrun⟩ := h.at_
  rw [List.drop_length] at hrun
  have h1 : e = F := congrArg Prod.fst hrun
  have h2 : its2.map It.xs = its1.map It.xs := congrArg Prod.snd hrun
  rw [h1] at htr
  obtain ⟨h3, h4⟩ := htr.none
  exact ⟨h2, by rw [h3, show (Rc.by_ F).length = F.k + 5 from Rc.dg_len _ _], h4⟩
end Go.Proofs.Ytibgjpifmpljkaa
