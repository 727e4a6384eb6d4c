/- A map whose values are lists that grow at the end and are cut at the front; lists that were left behind stay as they were; of no statement by itself. -/
import Derived.Test.YtkdionoelbiidaaMe
import Derived.ArgAppend
namespace Go.Proofs.Ytkdionoelbiidaa
open Go.RowKit
open Go.Maps (Keyed)
set_option linter.unusedVariables false

/-- A list in the block g from o on; 'all' lies in the block from its front to the list's end. -/
def CutRow (w : World) (B : Nat) (e : TypeId) (v : Value) (xs : List Value) (g o : Nat) (all : List Value) : Prop :=
  ∃ c cur, v = .slice (some ⟨g, o, none⟩) xs.length c ∧ B ≤ g ∧ w.heap[g]? = some (.cells cur e (0, 0)) ∧ xs.length ≤ c ∧ cur.size = o + c ∧ all.length = o + xs.length ∧ all.drop o = xs ∧ cur.toList.take all.length = all
theorem CutRow.of_own {w : World} {B : Nat} {e : TypeId} {v : Value} {xs : List Value} {n g : Nat} (h : w.ownsRow B e 1 v n xs) (hg : v.ownBlock = some g) : CutRow w B e v xs g 0 xs := by
  have hl := h.1
  rw [Nat.mul_one] at hl
  rcases h.2 with ⟨e0, _⟩ | ⟨g1, cap, cur, e0, e1, e2, e3, e4, e5, e6⟩
  · rw [e0] at hg; simp [Value.ownBlock] at hg
  · rw [e0] at hg
    simp only [Value.ownBlock, Option.some.injEq] at hg
    subst hg
    exact ⟨cap, cur, by rw [e0, hl], e1, e2, by omega, by omega, by omega, rfl, by rw [hl, ← e6]; simp⟩
theorem CutRow.keep {S : Nat → Prop} {w w' : World} {B : Nat} {e : TypeId} {v : Value} {xs : List Value} {g o : Nat} {all : List Value} (h : CutRow w B e v xs g o all) (hc : Chg S w w') (hS : ¬ S g) : CutRow w' B e v xs g o all := by
  obtain ⟨c, cur, h1, h2, h3, h4⟩ := h
  exact ⟨c, cur, h1, h2, blk_keep h3 hc hS, h4⟩
theorem CutRow.down {w : World} {B B' : Nat} {e : TypeId} {v : Value} {xs : List Value} {g o : Nat} {all : List Value} (h : CutRow w B e v xs g o all) (hB : B' ≤ B) : CutRow w B' e v xs g o all := by
  obtain ⟨c, cur, h1, h2, h3⟩ := h
  exact ⟨c, cur, h1, Nat.le_trans hB h2, h3⟩
theorem CutRow.blk {w : World} {B : Nat} {e : TypeId} {v : Value} {xs : List Value} {g o : Nat} {all : List Value} (h : CutRow w B e v xs g o all) : B ≤ g ∧ ∃ cur, w.heap[g]? = some (.cells cur e (0, 0)) ∧ cur.toList.take all.length = all := by
  obtain ⟨c, cur, _, h2, h3, _, _, _, _, h8⟩ := h
  exact ⟨h2, cur, h3, h8⟩
theorem CutRow.own {w : World} {B : Nat} {e : TypeId} {v : Value} {xs : List Value} {g o : Nat} {all : List Value} (h : CutRow w B e v xs g o all) : v.ownBlock = some g := by
  obtain ⟨c, cur, h1, _⟩ := h
  rw [h1]; rfl
theorem CutRow.cell {w : World} {B : Nat} {e : TypeId} {v : Value} {xs : List Value} {g o : Nat} {all : List Value} (h : CutRow w B e v xs g o all) {j : Nat} {u : Value} (hu : xs[j]? = some u) : w.cell? ⟨g, o + j, none⟩ = some u := by
  obtain ⟨c, cur, _, _, h3, _, h5, h6, h7, h8⟩ := h
  have h9 : all[o + j]? = some u := by rw [← List.getElem?_drop, h7]; exact hu
  rw [← h8, List.getElem?_take] at h9
  split at h9
  · simp only [World.cell?, h3]
    simpa using h9
  · cases h9
/-- The front goes. -/
theorem CutRow.cut {w : World} {B : Nat} {e : TypeId} {xs : List Value} {g o c : Nat} {all : List Value} (h : CutRow w B e (.slice (some ⟨g, o, none⟩) xs.length c) xs g o all) {k : Nat} (hk : k < xs.length) : CutRow w B e (.slice (some ⟨g, o + k, none⟩) (xs.length - k) (c - k)) (xs.drop k) g (o + k) all := by
  obtain ⟨c', cur, h1, h2, h3, h4, h5, h6, h7, h8⟩ := h
  simp only [Value.slice.injEq, true_and] at h1
  subst h1
  exact ⟨c - k, cur, by rw [List.length_drop], h2, h3, by rw [List.length_drop]; omega, by omega, by rw [List.length_drop]; omega, by rw [← h7, List.drop_drop], h8⟩
theorem set_cell {w : World} {g i : Nat} {cs : Array Value} {t : TypeId} (u : Value) (h : w.heap[g]? = some (.cells cs t (0, 0))) : (w.setCell ⟨g, i, none⟩ u).heap[g]? = some (.cells (cs.setIfInBounds i u) t (0, 0)) := by
  have hlt := lt_of_blk h
  have h' : w.heap[g] = .cells cs t (0, 0) := by simpa [Array.getElem?_eq_getElem hlt] using h
  show (w.heap.modify g _)[g]? = _
  rw [Array.getElem?_eq_getElem (by simpa using hlt), Array.getElem_modify_self, h']
  rfl
/-- append of one element. -/
theorem run_push2 {P : Program} (w : World) (B : Nat) (t ty e : TypeId) (i : TypeInfo) (z : Value) (bytes : Nat) (ht : P.underlying t = some (.slice e)) (hi : P.info? e = some i) (hz : i.zero = some z)
    (hsize : i.size = 1) (hby : i.bytes = bytes) (hzs : z.cells.size = 1) (v : Value) (xs : List Value) (hv : (v = .slice none 0 0 ∧ xs = []) ∨ ∃ g o all, CutRow w B e v xs g o all)
    (a : Addr) (c : Nat) (x : Value) (hx : w.cell? a = some x) (hone : x.oneCell' = true) (h63 : xs.length + 1 ≤ maxLen) (hbytes : (xs.length + 1) * bytes ≤ 140737488355328) (hB : B ≤ w.heap.size) :
    ∃ v' w' g o all, (Builtin.append_ #[t, t] ty #[v, .slice (some a) 1 c]).run P w = .ok v' w' ∧ CutRow w' B e v' (xs ++ [x]) g o (all ++ [x]) ∧ ((CutRow w B e v xs g o all ∧ Chg (fun z => z = g) w w') ∨ (g = w.heap.size ∧ Chg (fun _ => False) w w')) := by
  have hnews : ∀ j u, [x][j]? = some u → w.cell? (a.add j) = some u := fun j u hj => by
    rcases j with _ | j
    · simp at hj; subst hj; simpa [Addr.add] using hx
    · simp at hj
  have h1 : ∀ u ∈ [x], u.oneCell' = true := fun u hu => by simp at hu; subst hu; exact hone
  rcases hv with ⟨rfl, rfl⟩ | ⟨g, o, all, hC⟩
  · obtain ⟨v', w', g, hr, ho, hg, h5⟩ := run_push (P := P) w B t ty e i z bytes ht hi hz hsize hby hzs (.slice none 0 0) 0 [] (World.ownsRow_nil _ _ _ _) a c x hx hone h63 hbytes hB
    rcases h5 with ⟨h5, _⟩ | ⟨h5, h6⟩
    · simp [Value.ownBlock] at h5
    · exact ⟨v', w', g, 0, [], hr, CutRow.of_own ho hg, .inr ⟨h5, h6⟩⟩
  · have hC0 := hC
    obtain ⟨cp, cur, rfl, c2, c3, c4, c5, c6, c7, c8⟩ := hC
    by_cases hroom : xs.length + 1 ≤ cp
    · have hin : o + xs.length < cur.size := by omega
      have hr := run_append_room_cells (P := P) w t ty e i ht hi g o xs.length cp a 1 c [x] (by simp [hsize]) hnews h1 hroom
        (fun j hj => by
          simp at hj; subst hj
          simp only [World.cell?, c3, hsize, Nat.mul_one, Nat.add_zero]
          simp [Array.getElem?_eq_getElem hin])
        (fun j hj => by simp [World.frozen?, c3])
      rw [hsize, Nat.mul_one] at hr
      refine ⟨_, _, g, o, all, hr, ?_, .inl ⟨hC0, ?_⟩⟩
      · have hset : (w.setCells g (o + xs.length) [x]).heap[g]? = some (.cells (cur.setIfInBounds (o + xs.length) x) e (0, 0)) := set_cell x c3
        refine ⟨cp, _, by simp, c2, hset, by simp; omega, by simp; omega, by simp; omega, ?_, ?_⟩
        · rw [List.drop_append_of_le_length (by omega), c7]
        · have e1 : (all ++ [x]).length = o + xs.length + 1 := by simp; omega
          rw [e1, Array.toList_setIfInBounds, List.take_add_one, List.take_set_of_le (Nat.le_refl _), ← c6, c8]
          congr 1
          rw [List.getElem?_set_self (by simp; omega)]
          rfl
      · exact (Chg.refl (fun z => z = g) w).setCell (p := ⟨g, o + xs.length, none⟩) (.inl rfl) x
    · have holds : ∀ j u, xs[j]? = some u → w.cell? ((⟨g, o, none⟩ : Addr).add j) = some u := fun j u hu => by
        have := hC0.cell hu
        unfold Addr.add
        by_cases hj : j = 0
        · subst hj; simpa using this
        · simpa [hj] using this
      have hr2 := run_append_arg_grows (P := P) w t ty e i z 1 bytes ht hi hz hsize hby hzs (by omega) ⟨g, o, none⟩ xs.length cp xs (by omega) holds a 1 c [x] rfl hnews (by omega) h63 hbytes
      obtain ⟨v', w', hr, ho, hgr⟩ := hr2
      obtain ⟨g', cap', rfl⟩ := ownsRow_succ ho
      have hg' : w.heap.size ≤ g' := (ho.lt g' rfl).1
      have hr3 := run_append_grow (P := P) w t ty e i z ht hi hz ⟨g, o, none⟩ xs.length cp xs (by rw [hsize]; omega) holds a 1 c [x] (by simp [hsize]) hnews (by omega) (by unfold maxLen at h63; omega) (growslice_fits (by omega) (by rw [hby]; exact hbytes))
      rw [hr] at hr3
      simp only [Result.ok.injEq, Value.slice.injEq, Option.some.injEq, Addr.mk.injEq, true_and, and_true] at hr3
      obtain ⟨⟨rfl, _⟩, _⟩ := hr3
      exact ⟨_, w', w.heap.size, 0, xs, hr, (CutRow.of_own ho rfl).down hB, .inr ⟨rfl, (Chg.refl _ w).grown hgr (fun k e => by simp at e)⟩⟩

/-- The lists: T tells them by their keys; R tells what lies in each block that ever held one. -/
structure Cuts (w : World) (P : Program) (k e : TypeId) (b n B : Nat) (F : Lit → Option Value) (R : Nat → Option (List Value)) (T : Lit → List Value) : Prop where
  map : MapF w P k b n F
  here : ∀ kl, (F kl = none ∧ T kl = []) ∨ ∃ v g o all, F kl = some v ∧ CutRow w B e v (T kl) g o all ∧ R g = some all
  one : ∀ kl kl' v v' g, F kl = some v → F kl' = some v' → v.ownBlock = some g → v'.ownBlock = some g → kl = kl'
  old : ∀ g xs, R g = some xs → B ≤ g ∧ ∃ cur, w.heap[g]? = some (.cells cur e (0, 0)) ∧ cur.toList.take xs.length = xs
  base : B ≤ b
section
variable {w w' : World} {P : Program} {k e : TypeId} {b n B : Nat} {F : Lit → Option Value} {R : Nat → Option (List Value)} {T : Lit → List Value}
theorem Cuts.made (w : World) (P : Program) (k e : TypeId) (B : Nat) (hB : B ≤ w.heap.size) : Cuts (w.alloc (.map #[] 0)) P k e w.heap.size 0 B (fun _ => none) (fun _ => none) (fun _ => []) := ⟨MapF.made w P k, fun _ => .inl ⟨rfl, rfl⟩, fun _ _ _ _ _ h => (by simp at h), fun _ _ h => (by simp at h), hB⟩
theorem Cuts.keep {S : Nat → Prop} (h : Cuts w P k e b n B F R T) (hc : Chg S w w') (hS : ∀ z, lfoot b R z → ¬ S z) : Cuts w' P k e b n B F R T :=
  ⟨h.map.keep hc (hS b (.inl rfl)), fun kl => by
    rcases h.here kl with h0 | ⟨v, g, o, all, h1, h2, h3⟩
    · exact .inl h0
    · exact .inr ⟨v, g, o, all, h1, h2.keep hc (hS g (.inr ⟨_, h3⟩)), h3⟩, h.one, fun g xs hg => by
    obtain ⟨h1, cur, h2, h3⟩ := h.old g xs hg
    exact ⟨h1, cur, blk_keep h2 hc (hS g (.inr ⟨xs, hg⟩)), h3⟩, h.base⟩
theorem Cuts.lt (h : Cuts w P k e b n B F R T) {z : Nat} (hz : lfoot b R z) : B ≤ z ∧ z < w.heap.size := by
  rcases hz with rfl | ⟨xs, hg⟩
  · exact ⟨h.base, h.map.lt⟩
  · obtain ⟨h1, cur, h2, _⟩ := h.old z xs hg
    exact ⟨h1, lt_of_blk h2⟩
theorem Cuts.cel (h : Cuts w P k e b n B F R T) {z : Nat} (hz : lfoot b R z) : z = b ∨ ∃ cs t fz, w.heap[z]? = some (.cells cs t fz) := by
  rcases hz with rfl | ⟨xs, hg⟩
  · exact .inl rfl
  · obtain ⟨h1, cur, h2, _⟩ := h.old z xs hg
    exact .inr ⟨_, _, _, h2⟩
theorem Cuts.down {B' : Nat} (h : Cuts w P k e b n B F R T) (hB : B' ≤ B) : Cuts w P k e b n B' F R T :=
  ⟨h.map, fun kl => by
    rcases h.here kl with h0 | ⟨v, g, o, all, h1, h2, h3⟩
    · exact .inl h0
    · exact .inr ⟨v, g, o, all, h1, h2.down hB, h3⟩, h.one, fun g xs hg => by
    obtain ⟨h1, h2⟩ := h.old g xs hg
    exact ⟨Nat.le_trans hB h1, h2⟩, Nat.le_trans hB h.base⟩
/-- The list at a key, as it is looked up. -/
theorem Cuts.row (h : Cuts w P k e b n B F R T) (kl : Lit) : ((F kl).getD (.slice none 0 0) = .slice none 0 0 ∧ T kl = []) ∨ ∃ g o all, CutRow w B e ((F kl).getD (.slice none 0 0)) (T kl) g o all := by
  rcases h.here kl with ⟨h1, h2⟩ | ⟨v, g, o, all, h1, h2, h3⟩
  · exact .inl ⟨by rw [h1]; rfl, h2⟩
  · exact .inr ⟨g, o, all, by rw [h1]; exact h2⟩
/-- One number more in the list of kl, and its front cut: behind the append (to w1) and the store into the map (to w2). -/
theorem Cuts.push {w1 w2 : World} {n' : Nat} (h : Cuts w P k e b n B F R T) (kl : Lit) (v' : Value) (xs : List Value) (g o : Nat) (all : List Value) (x : Value) (hr : CutRow w1 B e v' xs g o (all ++ [x]))
    (hw : (∃ o', CutRow w B e ((F kl).getD (.slice none 0 0)) (T kl) g o' all) ∨ w.heap.size ≤ g) (hc1 : Chg (fun z => z = g) w w1) (hm : MapF w2 P k b n' (putF F kl v')) (hc2 : Chg (fun z => z = b) w1 w2) :
    Cuts w2 P k e b n' B (putF F kl v') (putR R g (all ++ [x])) (putT T kl xs) ∧ Rle R (putR R g (all ++ [x])) := by
  have hg := hr.own
  obtain ⟨hgB, cur, hcur, hall⟩ := hr.blk
  have hw' : ((F kl).getD (.slice none 0 0)).ownBlock = some g ∨ w.heap.size ≤ g := hw.imp (fun ⟨o', f⟩ => f.own) id
  have hgb : g ≠ b := by
    rintro rfl
    rcases hw with ⟨o', h1⟩ | h1
    · obtain ⟨_, cur0, hc0, _⟩ := h1.blk
      obtain ⟨o, ho, hn⟩ := h.map.noCells
      rw [hc0] at ho; cases ho; cases hn
    · have := h.map.lt; omega
  have hold : ∀ kl' v g', F kl' = some v → v.ownBlock = some g' → kl' ≠ kl → g' ≠ g := fun kl' v g' h1 h2 hne e => by
    subst e
    rcases hw' with h3 | h3
    · cases hF : F kl with
      | none => rw [hF] at h3; simp [Value.ownBlock] at h3
      | some v0 =>
        rw [hF] at h3
        exact hne (h.one kl' kl v v0 g' h1 hF h2 h3)
    · rcases h.here kl' with ⟨e1, _⟩ | ⟨v2, g2, o2, all2, e1, e2, e3⟩
      · rw [e1] at h1; cases h1
      · rw [h1] at e1
        obtain rfl := Option.some.inj e1
        have e4 := e2.own
        rw [h2] at e4
        obtain rfl := Option.some.inj e4
        obtain ⟨_, cur0, hc0, _⟩ := e2.blk
        have := lt_of_blk hc0
        omega
  have hnb : ∀ {g' : Nat} {cs : Array Value} {t : TypeId} {fz : Nat × Nat}, w.heap[g']? = some (.cells cs t fz) → g' ≠ b := fun hz e => by
    obtain ⟨o, ho, hn⟩ := h.map.noCells
    rw [e] at hz
    rw [hz] at ho; cases ho; cases hn
  have hRg : ∀ ys, R g = some ys → ys = all := fun ys hy => by
    rcases hw with ⟨o', h3⟩ | h3
    · rcases h.here kl with ⟨e1, _⟩ | ⟨v2, g2, o2, all2, e1, e2, e3⟩
      · rw [e1] at h3; obtain ⟨_, _, f, _⟩ := h3; simp at f
      · rw [e1] at h3
        have e4 := e2.own
        have e5 : v2.ownBlock = some g := h3.own
        rw [e5] at e4
        obtain rfl := Option.some.inj e4
        rw [hy] at e3
        obtain rfl := Option.some.inj e3
        obtain ⟨c1, cur1, a1, a2, a3, a4, a5, a6, a7, a8⟩ := h3
        obtain ⟨c2, cur2, b1, b2, b3, b4, b5, b6, b7, b8⟩ := e2
        simp only [Option.getD_some] at a1
        rw [a1] at b1
        simp only [Value.slice.injEq, Option.some.injEq, Addr.mk.injEq, true_and, and_true] at b1
        rw [a3] at b3
        simp only [Option.some.injEq, Obj.cells.injEq, and_true] at b3
        obtain rfl := b3
        rw [← a8, ← b8, a6, b6, b1.1]
    · have := (h.lt (.inr ⟨ys, hy⟩)).2
      omega
  refine ⟨⟨hm, fun kl' => ?_, fun k1 k2 v1 v2 g' h1 h2 h3 h4 => ?_, fun g' ys hy => ?_, h.base⟩, fun g' ys hy => ?_⟩
  · by_cases hk : kl' = kl
    · subst hk
      refine .inr ⟨v', g, o, all ++ [x], putF_same _ _ _, ?_, by simp [putR]⟩
      have e1 : putT T kl' xs kl' = xs := by simp [putT]
      rw [e1]
      exact hr.keep hc2 hgb
    · have e1 : putT T kl xs kl' = T kl' := by simp [putT, hk]
      rw [e1, putF_other F v' hk]
      rcases h.here kl' with h0 | ⟨v, g', o', all', h1, h2, h3⟩
      · exact .inl h0
      · have hne := hold kl' v g' h1 h2.own hk
        obtain ⟨_, cur0, hc0, _⟩ := h2.blk
        exact .inr ⟨v, g', o', all', h1, (h2.keep hc1 hne).keep hc2 (hnb hc0), by simp [putR, hne, h3]⟩
  · by_cases e1 : k1 = kl <;> by_cases e2 : k2 = kl
    · rw [e1, e2]
    · subst e1
      rw [putF_same] at h1
      rw [putF_other F v' e2] at h2
      cases h1
      rw [hg] at h3; cases h3
      exact absurd rfl (hold k2 v2 g h2 h4 e2)
    · subst e2
      rw [putF_same] at h2
      rw [putF_other F v' e1] at h1
      cases h2
      rw [hg] at h4; cases h4
      exact absurd rfl (hold k1 v1 g h1 h3 e1)
    · rw [putF_other F v' e1] at h1
      rw [putF_other F v' e2] at h2
      exact h.one k1 k2 v1 v2 g' h1 h2 h3 h4
  · by_cases hk : g' = g
    · subst hk
      have : ys = all ++ [x] := by simpa [putR] using hy.symm
      subst this
      exact ⟨hgB, cur, blk_keep hcur hc2 hgb, hall⟩
    · have hy' : R g' = some ys := by simpa [putR, hk] using hy
      obtain ⟨h1, cur2, h2, h3⟩ := h.old g' ys hy'
      exact ⟨h1, cur2, blk_keep (blk_keep h2 hc1 hk) hc2 (hnb h2), h3⟩
  · by_cases hk : g' = g
    · subst hk
      exact ⟨[x], by simp [putR, hRg ys hy]⟩
    · exact ⟨[], by simp [putR, hk, hy]⟩
end
end Go.Proofs.Ytkdionoelbiidaa
