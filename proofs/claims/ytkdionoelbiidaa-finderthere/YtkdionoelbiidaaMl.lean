/- A map whose values are lists of numbers that grow; lists that were left behind stay as they were; of no statement by itself. -/
import Derived.Test.YtkdionoelbiidaaMp
import Derived.Test.YtkdionoelbiidaaWb
import Derived.Test.YtkdionoelbiidaaFa
import Derived.Maps.AppendAt
namespace Go.Proofs.Ytkdionoelbiidaa
open Go.RowKit
open Go.Maps (Keyed)
set_option linter.unusedVariables false

/-- append of one element to a list of one's own: it lies where it lay, or in the block just made and nothing that was there has turned. -/
theorem run_push {P : Program} (w : World) (base : Nat) (t ty e : TypeId) (i : TypeInfo) (z : Value) (bytes : Nat) (ht : P.underlying t = some (.slice e)) (hi : P.info? e = some i) (hz : i.zero = some z)
    (hsize : i.size = 1) (hby : i.bytes = bytes) (hzs : z.cells.size = 1) (v : Value) (n : Nat) (xs : List Value) (hown : w.ownsRow base e 1 v n xs)
    (a : Addr) (c : Nat) (x : Value) (hx : w.cell? a = some x) (hone : x.oneCell' = true) (h63 : n + 1 ≤ maxLen) (hbytes : (n + 1) * bytes ≤ 140737488355328) (hbase : base ≤ w.heap.size) :
    ∃ v' w' g, (Builtin.append_ #[t, t] ty #[v, .slice (some a) 1 c]).run P w = .ok v' w' ∧ w'.ownsRow base e 1 v' (n + 1) (xs ++ [x]) ∧ v'.ownBlock = some g ∧ ((v.ownBlock = some g ∧ Chg (fun z => z = g) w w') ∨ (g = w.heap.size ∧ Chg (fun _ => False) w w')) := by
  have hnews : ∀ j u, [x][j]? = some u → w.cell? (a.add j) = some u := fun j u hj => by
    rcases j with _ | j
    · simp at hj; subst hj; simpa [Addr.add] using hx
    · simp at hj
  have h1 : ∀ u ∈ [x], u.oneCell' = true := fun u hu => by simp at hu; subst hu; exact hone
  obtain ⟨v', w', hr, h2, h3, _, h5⟩ := run_append_own_at (P := P) w base t ty e i z 1 bytes ht hi hz hsize hby hzs (by omega) v n xs hown a 1 c [x] rfl hnews h1 h63 hbytes hbase
  obtain ⟨g, cap', rfl⟩ := ownsRow_succ h2
  refine ⟨_, w', g, hr, h2, rfl, ?_⟩
  rcases hown.2 with ⟨rfl, rfl⟩ | ⟨g0, cap, cur, rfl, hbg, hg, hnc, hcm, hcs, htake⟩
  · rcases h5 with h5 | h5
    · simp [Value.ownBlock] at h5
    · exact .inr ⟨by simpa [Value.ownBlock] using h5, (Chg.refl _ w).grown h3 (fun k e => by simp [Value.ownBlock] at e)⟩
  · by_cases hroom : n + 1 ≤ cap
    · have hfit : n * i.size + [x].length ≤ cur.size := by rw [hsize, hcs]; simp; omega
      have hr2 := run_append_room (P := P) w t ty e i ht hi g0 n cap cur hg a 1 c [x] (by simp [hsize]) hnews h1 hroom hfit
      rw [hr] at hr2
      simp only [Result.ok.injEq, Value.slice.injEq, Option.some.injEq, Addr.mk.injEq, true_and, and_true] at hr2
      obtain ⟨⟨rfl, _⟩, _⟩ := hr2
      exact .inl ⟨rfl, (Chg.refl _ w).grown h3 (fun k e => .inl (by simpa [Value.ownBlock] using e.symm))⟩
    · have holds : ∀ j u, xs[j]? = some u → w.cell? ((⟨g0, 0, none⟩ : Addr).add j) = some u := hown.cells (g := g0) rfl
      have hr2 := run_append_grow (P := P) w t ty e i z ht hi hz ⟨g0, 0, none⟩ n cap xs (by rw [hsize]; exact hown.1) holds a 1 c [x] (by simp [hsize]) hnews (by omega) (by unfold maxLen at h63; omega) (growslice_fits (by omega) (by rw [hby]; exact hbytes))
      rw [hr] at hr2
      simp only [Result.ok.injEq, Value.slice.injEq, Option.some.injEq, Addr.mk.injEq, true_and, and_true] at hr2
      obtain ⟨⟨rfl, _⟩, rfl⟩ := hr2
      exact .inr ⟨rfl, ((Chg.refl _ w).drew).alloc _⟩

/-- The lists: T tells them by their keys; R tells what lies in each block that ever held one. -/
structure Lists (w : World) (P : Program) (k e : TypeId) (b n B : Nat) (F : Lit → Option Value) (R : Nat → Option (List Value)) (T : Lit → List Value) : Prop where
  map : MapF w P k b n F
  here : ∀ kl, (F kl = none ∧ T kl = []) ∨ ∃ v g, F kl = some v ∧ v.ownBlock = some g ∧ w.ownsRow B e 1 v (T kl).length (T kl) ∧ R g = some (T kl)
  one : ∀ kl kl' v v' g, F kl = some v → F kl' = some v' → v.ownBlock = some g → v'.ownBlock = some g → kl = kl'
  old : ∀ g xs, R g = some xs → B ≤ g ∧ ∃ cur, w.heap[g]? = some (.cells cur e (0, 0)) ∧ cur.toList.take xs.length = xs
  base : B ≤ b
/-- What its owner may turn. -/
def lfoot (b : Nat) (R : Nat → Option (List Value)) (z : Nat) : Prop := z = b ∨ ∃ xs, R z = some xs
section
variable {w w' : World} {P : Program} {k e : TypeId} {b n B : Nat} {F : Lit → Option Value} {R : Nat → Option (List Value)} {T : Lit → List Value}
theorem Lists.made (w : World) (P : Program) (k e : TypeId) (B : Nat) (hB : B ≤ w.heap.size) : Lists (w.alloc (.map #[] 0)) P k e w.heap.size 0 B (fun _ => none) (fun _ => none) (fun _ => []) := ⟨MapF.made w P k, fun _ => .inl ⟨rfl, rfl⟩, fun _ _ _ _ _ h => (by simp at h), fun _ _ h => (by simp at h), hB⟩
theorem Lists.keep {S : Nat → Prop} (h : Lists w P k e b n B F R T) (hc : Chg S w w') (hS : ∀ z, lfoot b R z → ¬ S z) : Lists w' P k e b n B F R T :=
  ⟨h.map.keep hc (hS b (.inl rfl)), fun kl => by
    rcases h.here kl with h0 | ⟨v, g, h1, h2, h3, h4⟩
    · exact .inl h0
    · exact .inr ⟨v, g, h1, h2, ownsRow_keepN h3 hc (fun g' e' => by rw [h2] at e'; cases e'; exact hS g (.inr ⟨_, h4⟩)), h4⟩, h.one, fun g xs hg => by
    obtain ⟨h1, cur, h2, h3⟩ := h.old g xs hg
    exact ⟨h1, cur, blk_keep h2 hc (hS g (.inr ⟨xs, hg⟩)), h3⟩, h.base⟩
theorem Lists.lt (h : Lists w P k e b n B F R T) {z : Nat} (hz : lfoot b R z) : B ≤ z ∧ z < w.heap.size := by
  rcases hz with rfl | ⟨xs, hg⟩
  · exact ⟨h.base, h.map.lt⟩
  · obtain ⟨h1, cur, h2, _⟩ := h.old z xs hg
    exact ⟨h1, lt_of_blk h2⟩
theorem Lists.cel (h : Lists w P k e b n B F R T) {z : Nat} (hz : lfoot b R z) : z = b ∨ ∃ cs t fz, w.heap[z]? = some (.cells cs t fz) := by
  rcases hz with rfl | ⟨xs, hg⟩
  · exact .inl rfl
  · obtain ⟨h1, cur, h2, _⟩ := h.old z xs hg
    exact .inr ⟨_, _, _, h2⟩
theorem Lists.down {B' : Nat} (h : Lists w P k e b n B F R T) (hB : B' ≤ B) : Lists w P k e b n B' F R T :=
  ⟨h.map, fun kl => by
    rcases h.here kl with h0 | ⟨v, g, h1, h2, h3, h4⟩
    · exact .inl h0
    · exact .inr ⟨v, g, h1, h2, owns_base h3 hB, h4⟩, h.one, fun g xs hg => by
    obtain ⟨h1, h2⟩ := h.old g xs hg
    exact ⟨Nat.le_trans hB h1, h2⟩, Nat.le_trans hB h.base⟩
/-- The list at a key, as it is looked up. -/
theorem Lists.row (h : Lists w P k e b n B F R T) (kl : Lit) : w.ownsRow B e 1 ((F kl).getD (.slice none 0 0)) (T kl).length (T kl) := by
  rcases h.here kl with ⟨h1, h2⟩ | ⟨v, g, h1, h2, h3, h4⟩
  · rw [h1, h2]; exact World.ownsRow_nil _ _ _ _
  · rw [h1]; exact h3
open Classical in
noncomputable def putR (R : Nat → Option (List Value)) (g : Nat) (xs : List Value) : Nat → Option (List Value) := fun z => if z = g then some xs else R z
open Classical in
noncomputable def putT (T : Lit → List Value) (kl : Lit) (xs : List Value) : Lit → List Value := fun x => if x = kl then xs else T x
/-- What the owner's lists become goes on from what they were. -/
def Rle (R R' : Nat → Option (List Value)) : Prop := ∀ g xs, R g = some xs → ∃ ys, R' g = some (xs ++ ys)
theorem Rle.refl (R : Nat → Option (List Value)) : Rle R R := fun g xs h => ⟨[], by simpa using h⟩
theorem Rle.trans {A C D : Nat → Option (List Value)} (h : Rle A C) (k : Rle C D) : Rle A D := fun g xs hg => by
  obtain ⟨ys, h1⟩ := h g xs hg
  obtain ⟨zs, h2⟩ := k g _ h1
  exact ⟨ys ++ zs, by rw [h2, List.append_assoc]⟩
/-- One number more in the list of kl: behind the append (to w1) and the store into the map (to w2). -/
theorem Lists.push {w1 w2 : World} {n' : Nat} (h : Lists w P k e b n B F R T) (kl : Lit) (x v' : Value) (g : Nat) (hr : w1.ownsRow B e 1 v' ((T kl).length + 1) (T kl ++ [x])) (hg : v'.ownBlock = some g)
    (hw : ((F kl).getD (.slice none 0 0)).ownBlock = some g ∨ w.heap.size ≤ g) (hc1 : Chg (fun z => z = g ∨ z = b) w w1) (hm : MapF w2 P k b n' (putF F kl v')) (hc2 : Chg (fun z => z = b) w1 w2) :
    Lists w2 P k e b n' B (putF F kl v') (putR R g (T kl ++ [x])) (putT T kl (T kl ++ [x])) ∧ Rle R (putR R g (T kl ++ [x])) := by
  obtain ⟨cur, hcur⟩ := owns_blk hr hg
  have hgb : g ≠ b := by
    rintro rfl
    rcases hw with h1 | h1
    · obtain ⟨cur0, hc0⟩ := owns_blk (h.row kl) h1
      obtain ⟨o, ho, hn⟩ := h.map.noCells
      rw [hc0] at ho; cases ho; cases hn
    · have := h.map.lt; omega
  have hgB : B ≤ g := (hr.lt g hg).1
  -- who else has the block g
  have hold : ∀ kl' v g', F kl' = some v → v.ownBlock = some g' → kl' ≠ kl → g' ≠ g := fun kl' v g' h1 h2 hne e => by
    subst e
    rcases hw with h3 | h3
    · cases hF : F kl with
      | none => rw [hF] at h3; simp [Value.ownBlock] at h3
      | some v0 =>
        rw [hF] at h3
        exact hne (h.one kl' kl v v0 g' h1 hF h2 h3)
    · rcases h.here kl' with ⟨e1, _⟩ | ⟨v2, g2, e1, e2, e3, _⟩
      · rw [e1] at h1; cases h1
      · rw [h1] at e1
        obtain rfl := Option.some.inj e1
        have := (e3.lt _ h2).2
        omega
  have hnb : ∀ {g' : Nat} {cs : Array Value} {t : TypeId} {fz : Nat × Nat}, w.heap[g']? = some (.cells cs t fz) → g' ≠ b := fun hz e => by
    obtain ⟨o, ho, hn⟩ := h.map.noCells
    rw [e] at hz
    rw [hz] at ho; cases ho; cases hn
  have hRg : ∀ xs, R g = some xs → xs = T kl := fun xs hx => by
    rcases hw with h3 | h3
    · rcases h.here kl with ⟨e1, _⟩ | ⟨v2, g2, e1, e2, e3, e4⟩
      · rw [e1] at h3; simp [Value.ownBlock] at h3
      · rw [e1] at h3
        rw [show v2.ownBlock = some g from h3] at e2
        cases e2
        rw [hx] at e4
        exact Option.some.inj e4
    · have := (h.lt (.inr ⟨xs, hx⟩)).2
      omega
  refine ⟨⟨hm, fun kl' => ?_, fun k1 k2 v1 v2 g' h1 h2 h3 h4 => ?_, fun g' xs hx => ?_, h.base⟩, fun g' xs hx => ?_⟩
  · by_cases hk : kl' = kl
    · subst hk
      refine .inr ⟨v', g, putF_same _ _ _, hg, ?_, by simp [putR, putT]⟩
      have e1 : putT T kl' (T kl' ++ [x]) kl' = T kl' ++ [x] := by simp [putT]
      rw [e1, List.length_append]
      exact ownsRow_keepN hr hc2 (fun g' e2 => by rw [hg] at e2; cases e2; exact hgb)
    · have e1 : putT T kl (T kl ++ [x]) kl' = T kl' := by simp [putT, hk]
      rw [e1, putF_other F v' hk]
      rcases h.here kl' with h0 | ⟨v, g', h1, h2, h3, h4⟩
      · exact .inl h0
      · have hne := hold kl' v g' h1 h2 hk
        refine .inr ⟨v, g', h1, h2, ownsRow_keepN (ownsRow_keepN h3 hc1 (fun z e2 => by rw [h2] at e2; cases e2; obtain ⟨cur0, hc0⟩ := owns_blk h3 h2; exact fun f => f.elim hne (hnb hc0))) hc2 (fun z e2 => ?_), by simp [putR, hne, h4]⟩
        rw [h2] at e2; cases e2
        rintro rfl
        obtain ⟨cur0, hc0⟩ := owns_blk h3 h2
        obtain ⟨o, ho, hn⟩ := h.map.noCells
        rw [hc0] at ho; cases ho; cases hn
  · by_cases e1 : k1 = kl <;> by_cases e2 : k2 = kl
    · rw [e1, e2]
    · subst e1
      rw [putF_same] at h1
      rw [putF_other F v' e2] at h2
      cases h1
      rw [hg] at h3; cases h3
      exact absurd rfl (hold k2 v2 g h2 h4 e2)
    · subst e2
      rw [putF_same] at h2
      rw [putF_other F v' e1] at h1
      cases h2
      rw [hg] at h4; cases h4
      exact absurd rfl (hold k1 v1 g h1 h3 e1)
    · rw [putF_other F v' e1] at h1
      rw [putF_other F v' e2] at h2
      exact h.one k1 k2 v1 v2 g' h1 h2 h3 h4
  · by_cases hk : g' = g
    · subst hk
      have : xs = T kl ++ [x] := by simpa [putR] using hx.symm
      subst this
      rcases hr.2 with ⟨_, e0⟩ | ⟨g2, cap, cur2, e0, _, e2, _, _, _, e5⟩
      · omega
      · rw [e0] at hg
        simp only [Value.ownBlock, Option.some.injEq] at hg
        subst hg
        refine ⟨hgB, cur2, blk_keep e2 hc2 hgb, ?_⟩
        rw [← e5]
        simp
    · have hx' : R g' = some xs := by simpa [putR, hk] using hx
      obtain ⟨h1, cur2, h2, h3⟩ := h.old g' xs hx'
      refine ⟨h1, cur2, blk_keep (blk_keep h2 hc1 (fun f => f.elim hk (hnb h2))) hc2 ?_, h3⟩
      rintro rfl
      obtain ⟨o, ho, hn⟩ := h.map.noCells
      rw [h2] at ho; cases ho; cases hn
  · by_cases hk : g' = g
    · subst hk
      exact ⟨[x], by simp [putR, hRg xs hx]⟩
    · exact ⟨[], by simp [putR, hk, hx]⟩
end
end Go.Proofs.Ytkdionoelbiidaa
