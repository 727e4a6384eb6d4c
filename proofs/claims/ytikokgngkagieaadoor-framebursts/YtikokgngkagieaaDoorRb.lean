/- A law for a region that draws its order and has no last operation; some of its operations turn memory, in any order that their waiting leaves, some of these without a slot; of no statement by itself. -/
import Derived.Test.YtikokgngkagieaaDoorRs
namespace Go.Proofs.YtikokgngkagieaaDoor
open Go.RowKit
set_option linter.unusedVariables false
section
variable {P : Program} {ops : Array Oper} {Q : Exit → Act → World → Prop} {G : Nat → Value → Prop} {J : (Nat → Bool) → (Nat → Value) → World → Prop} {mk : (Nat → Value) → Array Value} {df : List Deferred}
/-- Has it no slot? -/
def bare (ops : Array Oper) (i : Nat) : Bool := ((ops[i]?).map fun o => o.dst.isNone).getD false
/-- The operations' slots are distinct, where they have one; those without turn memory; none waits for a later one. -/
def tidyA (ops : Array Oper) (ms : List Nat) : Bool :=
  (List.range ops.size).all fun i => ((List.range ops.size).all (fun j => i == j || slotOf ops i != slotOf ops j || (bare ops i && bare ops j)) && (!bare ops i || ms.contains i)) && ((ops[i]?).map fun o => o.after.toList.all fun e => !Region.binds .any e || decide (e.on < i)).getD true
theorem tidyA_slot {ms : List Nat} (h : tidyA ops ms = true) {i j : Nat} (hi : i < ops.size) (hj : j < ops.size) (e : slotOf ops i = slotOf ops j) (hne : i ≠ j) : bare ops i = true ∧ bare ops j = true := by
  have h1 := List.all_eq_true.1 h i (List.mem_range.2 hi)
  simp only [Bool.and_eq_true] at h1
  have h2 := List.all_eq_true.1 h1.1.1 j (List.mem_range.2 hj)
  simpa [e, hne] using h2
theorem tidyA_bare {ms : List Nat} (h : tidyA ops ms = true) {i : Nat} (hi : i < ops.size) (hb : bare ops i = true) : ms.contains i = true := by
  have h1 := List.all_eq_true.1 h i (List.mem_range.2 hi)
  simp only [Bool.and_eq_true, hb, Bool.not_true, Bool.false_or] at h1
  exact h1.1.2
theorem tidyA_after {ms : List Nat} (h : tidyA ops ms = true) {i : Nat} {o : Oper} (ho : ops[i]? = some o) {e : Edge} (he : e ∈ o.after) (hb : Region.binds .any e = true) : e.on < i := by
  have hi : i < ops.size := (Array.getElem?_eq_some_iff.1 ho).1
  have h1 := List.all_eq_true.1 h i (List.mem_range.2 hi)
  simp only [Bool.and_eq_true, ho, Option.map_some, Option.getD_some] at h1
  have h2 := List.all_eq_true.1 h1.2 e (by simpa using he)
  simpa [hb] using h2
theorem bare_slot {i : Nat} (h : bare ops i = true) : slotOf ops i = 0 := by
  unfold bare at h
  cases ho : ops[i]? with
  | none => simp [ho] at h
  | some o =>
    simp only [ho, Option.map_some, Option.getD_some] at h
    cases hd : o.dst with
    | none => simp [slotOf, ho, hd]
    | some t => simp [hd] at h
theorem all_go (ms : List Nat) (ht : tidyA ops ms = true) (hmn : ms.all (fun m => decide (m < ops.size)) = true) (hp : PutsQ mk df ops.toList) (hG0 : ∀ v, G 0 v)
    (hJ : ∀ L L' u u' w, (∀ m ∈ ms, L m = L' m ∧ u (slotOf ops m) = u' (slotOf ops m)) → J L u w → J L' u' w)
    (hs : StepsS P ops Q mk df G J ms 0 ops.toList)
    (hend : ∀ u w, J (fun _ => true) u w → Alls (fun t v _ => G t v) u w ops.toList → Q .normal ⟨mk u, df⟩ w) :
    ∀ (fuel : Nat) (listed : Array Bool) (u : Nat → Value) (w : World), listed.size = ops.size → listed.toList.countP (fun b => !b) ≤ fuel →
      (∀ i o e, listed.getD i false = true → ops[i]? = some o → e ∈ o.after → Region.binds .any e = true → listed.getD e.on false = true) →
      J (fun i => listed.getD i false) u w →
      (∀ i, i < ops.size → listed.getD i false = true → G (slotOf ops i) (u (slotOf ops i))) → wpAny P .any ops Q fuel listed ⟨mk u, df⟩ w := by
  have hmlt : ∀ m ∈ ms, m < ops.size := fun m hm => by
    have := List.all_eq_true.1 hmn m hm
    simpa using this
  have hfin : ∀ (listed : Array Bool) (u : Nat → Value) (w : World), listed.size = ops.size → J (fun i => listed.getD i false) u w →
      (∀ i, i < ops.size → listed.getD i false = true → G (slotOf ops i) (u (slotOf ops i))) → Region.ready .any ops listed = [] → Q .normal ⟨mk u, df⟩ w := by
    intro listed u w hsz hq hF hr
    have hall : ∀ i, i < ops.size → listed.getD i false = true := by
      intro i
      induction i using Nat.strongRecOn with
      | ind i ih =>
        intro hi
        cases hl : listed.getD i false with
        | true => rfl
        | false =>
          exfalso
          have : i ∈ Region.ready .any ops listed := by
            refine mem_ready.2 ⟨?_, ops[i], Array.getElem?_eq_getElem hi, fun e he hb => ?_⟩
            · have hi' : i < listed.size := by omega
              simpa [hi'] using hl
            · have := tidyA_after ht (Array.getElem?_eq_getElem hi) he hb
              exact ih _ this (by omega)
          rw [hr] at this
          cases this
    refine hend u w (hJ _ _ _ _ _ (fun m hm => ⟨hall m (hmlt m hm), rfl⟩) hq) (alls_of _ fun o hmo => ?_)
    obtain ⟨j, hj2, rfl⟩ := List.mem_iff_getElem.1 hmo
    have hj3 : j < ops.size := by simpa using hj2
    have hoj : ops[j]? = some ops.toList[j] := by rw [← Array.getElem?_toList, List.getElem?_eq_getElem hj2]
    have := hF j hj3 (hall j hj3)
    have es : slotOf ops j = (ops.toList[j]).dst.getD 0 := by simp only [slotOf, hoj, Option.bind_some]
    rw [es] at this
    exact this
  intro fuel
  induction fuel with
  | zero =>
    intro listed u w hsz hn hC hq hF
    have hr : Region.ready .any ops listed = [] := by
      cases h : Region.ready .any ops listed with
      | nil => rfl
      | cons j l =>
        exfalso
        have hj : j ∈ Region.ready .any ops listed := by rw [h]; exact List.mem_cons_self
        obtain ⟨h0, o, ho, _⟩ := mem_ready.1 hj
        have hjs : j < listed.size := by have := (Array.getElem?_eq_some_iff.1 ho).1; omega
        have h1 : listed[j] = false := by simpa [hjs] using h0
        have h2 : 0 < listed.toList.countP (fun b => !b) := List.countP_pos_iff.2 ⟨false, by rw [← h1]; simp, rfl⟩
        omega
    exact ⟨hr, hfin listed u w hsz hq hF hr⟩
  | succ fuel ih =>
    intro listed u w hsz hn hC hq hF
    refine ⟨hfin listed u w hsz hq hF, fun i hi => ?_⟩
    obtain ⟨h0, o, ho, hall⟩ := mem_ready.1 hi
    have hio : i < ops.size := (Array.getElem?_eq_some_iff.1 ho).1
    have his : i < listed.size := by omega
    have hl0 : listed[i] = false := by simpa [his] using h0
    have hli : listed.getD i false = false := by simpa [his] using hl0
    have hcnt : (listed.setIfInBounds i true).toList.countP (fun b => !b) ≤ fuel := by
      have : (listed.setIfInBounds i true).toList = listed.toList.set i true := by simp
      rw [this, List.countP_set (by simpa using his)]
      have h2 : 0 < listed.toList.countP (fun b => !b) := List.countP_pos_iff.2 ⟨false, by rw [← hl0]; simp, rfl⟩
      have h3 : (!(listed.toList[i]'(by simpa using his))) = true := by simp [hl0]
      rw [if_pos h3]
      simp only [Bool.not_true, Bool.false_eq_true, if_false]
      omega
    have hC2 : ∀ j oj e, (listed.setIfInBounds i true).getD j false = true → ops[j]? = some oj → e ∈ oj.after → Region.binds .any e = true → (listed.setIfInBounds i true).getD e.on false = true := by
      intro j oj e hlj hoj he hb
      by_cases ej : j = i
      · subst ej
        obtain rfl : oj = o := Option.some.inj (hoj.symm.trans ho)
        have := tidyA_after ht ho he hb
        rw [getD_set_ne false (by omega)]
        exact hall e he hb
      · rw [getD_set_ne false (Ne.symm ej)] at hlj
        have := hC j oj e hlj hoj he hb
        by_cases ee : e.on = i
        · rw [ee]
          simp [his]
        · rw [getD_set_ne false (Ne.symm ee)]
          exact this
    have hmem : o ∈ ops.toList := by
      obtain ⟨h1, h2⟩ := Array.getElem?_eq_some_iff.1 ho
      rw [← h2]
      simp
    have e1' := putsQ_at hp o hmem u
    obtain ⟨t, hd⟩ : ∃ t, o.dst.getD 0 = t := ⟨_, rfl⟩
    have e1 : ∀ v, (⟨mk u, df⟩ : Act).put o.dst v = ⟨mk (upd u t v), df⟩ := fun v => by rw [← hd]; exact e1' v
    have hslot : slotOf ops i = t := by rw [← hd]; simp [slotOf, ho]
    have hfi : ops.toList[i]? = some o := by rw [Array.getElem?_toList]; exact ho
    have hstep := stepsS_at hs i o hfi
    rw [Nat.zero_add] at hstep
    have hFn : ∀ v, G t v → ∀ j, j < ops.size → (listed.setIfInBounds i true).getD j false = true → G (slotOf ops j) (upd u t v (slotOf ops j)) := fun v hGv j hj2 hlj => by
      by_cases e : j = i
      · subst e
        rw [hslot]
        simpa [upd] using hGv
      · have hlj' : listed.getD j false = true := by
          rw [getD_set_ne false (Ne.symm e)] at hlj
          exact hlj
        by_cases es : slotOf ops j = t
        · have hb := tidyA_slot ht hj2 hio (by rw [es, hslot]) e
          rw [bare_slot hb.1]
          exact hG0 _
        · simpa [upd, es] using hF j hj2 hlj'
    by_cases hx : ms.contains i = true
    · rw [if_pos hx] at hstep
      refine wpOp_step ho (fun K hK => hstep _ u w hq hli (fun e he hb => hall e (by simpa using he) hb) (deps_of _ fun e he hb => ?_) K ?_)
      · have he' : e ∈ o.after := by simpa using he
        have := tidyA_after ht ho he' hb
        exact hF e.on (by omega) (hall e he' hb)
      · intro v w' hj2 hGv
        refine hK _ _ ?_
        rw [hd] at hGv hj2
        rw [e1]
        refine ih _ _ w' (by simpa using hsz) hcnt hC2 (hJ _ _ _ _ _ (fun m hm => ⟨?_, rfl⟩) hj2) (hFn v hGv)
        unfold also
        by_cases e : m = i
        · subst e
          simp [his]
        · rw [if_neg e, getD_set_ne false (Ne.symm e)]
    · rw [if_neg hx] at hstep
      have hnm : i ∉ ms := fun h => hx (by simpa using h)
      refine wpOp_step ho (fun K hK => hstep _ u w hq (deps_of _ fun e he hb => ?_) K ?_)
      · have he' : e ∈ o.after := by simpa using he
        have := tidyA_after ht ho he' hb
        exact hF e.on (by omega) (hall e he' hb)
      · intro v hGv
        refine hK _ _ ?_
        rw [hd] at hGv
        rw [e1]
        refine ih _ _ w (by simpa using hsz) hcnt hC2 (hJ _ _ u _ w (fun m hm => ⟨?_, ?_⟩) hq) (hFn v hGv)
        · have hne2 : i ≠ m := fun e => hnm (e ▸ hm)
          rw [getD_set_ne false hne2]
        · have hml : m < ops.size := hmlt m hm
          by_cases es : slotOf ops m = t
          · exfalso
            have hb := tidyA_slot ht hml hio (by rw [es, hslot]) (fun e => hnm (e ▸ hm))
            exact hx (tidyA_bare ht hio hb.2)
          · simp [upd, es]
/-- THE LAW: a region that draws its order; the operations of ms turn memory, in any order that their waiting leaves; it has no last operation. -/
theorem wp_region_all {id : Nat} {a : Act} {w0 : World} (mk : (Nat → Value) → Array Value) (G : Nat → Value → Prop) (J : (Nat → Bool) → (Nat → Value) → World → Prop) (ms : List Nat) (df : List Deferred) (u0 : Nat → Value) (ha : a = ⟨mk u0, df⟩) (hm : P.follows .mixedOrders = true)
    (ht : tidyA ops ms = true) (hmn : ms.all (fun m => decide (m < ops.size)) = true) (hp : PutsQ mk df ops.toList) (hG0 : ∀ v, G 0 v)
    (hJ : ∀ L L' u u' w, (∀ m ∈ ms, L m = L' m ∧ u (slotOf ops m) = u' (slotOf ops m)) → J L u w → J L' u' w) (hJ0 : J (fun _ => false) u0 w0.drew)
    (hs : StepsS P ops Q mk df G J ms 0 ops.toList)
    (hend : ∀ u w, J (fun _ => true) u w → Alls (fun t v _ => G t v) u w ops.toList → Q .normal ⟨mk u, df⟩ w) : (Code.region id ops true).wp P Q a w0 := by
  subst ha
  refine wp_region_any hm (all_go ms ht hmn hp hG0 hJ hs hend _ _ u0 _ (by simp) ?_ ?_ (hJ _ _ _ _ _ (fun m hm => ⟨(rep_getD _ _).symm, rfl⟩) hJ0) ?_)
  · have := List.countP_le_length (p := fun b => !b) (l := (Array.replicate ops.size false).toList)
    simpa using this
  · intro i o e h
    rw [rep_getD] at h
    cases h
  · intro i hi h
    rw [rep_getD] at h
    cases h
end
end Go.Proofs.YtikokgngkagieaaDoor
