/- A law for a region that draws its order and has no last operation, some of whose operations turn memory; of no statement by itself. -/
import Derived.Test.YthgibmhbgfjkcaaLastQ
namespace Go.Proofs.Ythgibmhbgfjkcaa
open Go.RowKit
set_option linter.unusedVariables false
section
variable {P : Program} {ops : Array Oper} {Q : Exit → Act → World → Prop} {G : Nat → Value → Prop} {J : Nat → (Nat → Value) → World → Prop} {mk : (Nat → Value) → Array Value} {df : List Deferred} {lim : Nat → Nat}
/-- The operations' slots are distinct, and none waits for a later one. -/
def tidyB (ops : Array Oper) : Bool :=
  (List.range ops.size).all fun i => (List.range ops.size).all (fun j => i == j || slotOf ops i != slotOf ops j) && ((ops[i]?).map fun o => o.after.toList.all fun e => !Region.binds .any e || decide (e.on < i)).getD true
theorem tidyB_slot (h : tidyB ops = true) {i j : Nat} (hi : i < ops.size) (hj : j < ops.size) (e : slotOf ops i = slotOf ops j) : i = j := by
  have h1 := List.all_eq_true.1 h i (List.mem_range.2 hi)
  simp only [Bool.and_eq_true] at h1
  have h2 := List.all_eq_true.1 h1.1 j (List.mem_range.2 hj)
  simpa [e] using h2
theorem tidyB_after (h : tidyB ops = true) {i : Nat} {o : Oper} (ho : ops[i]? = some o) {e : Edge} (he : e ∈ o.after) (hb : Region.binds .any e = true) : e.on < i := by
  have hi : i < ops.size := (Array.getElem?_eq_some_iff.1 ho).1
  have h1 := List.all_eq_true.1 h i (List.mem_range.2 hi)
  simp only [Bool.and_eq_true, ho, Option.map_some, Option.getD_some] at h1
  have h2 := List.all_eq_true.1 h1.2 e (by simpa using he)
  simpa [hb] using h2
theorem phaseR_go (ms : List Nat) (ht : tidyB ops = true) (hch : chainOk ops ms = true) (hmn : ms.all (fun m => decide (m < ops.size)) = true) (hnd : ms.Nodup) (hp : PutsQ mk df ops.toList)
    (hJ : ∀ q u u' w, (∀ m ∈ ms, u (slotOf ops m) = u' (slotOf ops m)) → J q u w → J q u' w)
    (hlim : limOk ops ms lim ops.size = true) (hs : StepsQ P ops Q mk df G J ms lim 0 ops.toList)
    (hend : ∀ u w, J ms.length u w → Alls (fun t v _ => G t v) u w ops.toList → Q .normal ⟨mk u, df⟩ w) :
    ∀ (fuel : Nat) (listed : Array Bool) (u : Nat → Value) (w : World), listed.size = ops.size → listed.toList.countP (fun b => !b) ≤ fuel →
      (∀ i o e, listed.getD i false = true → ops[i]? = some o → e ∈ o.after → Region.binds .any e = true → listed.getD e.on false = true) →
      (∃ q, q ≤ ms.length ∧ (∀ k (h : k < ms.length), k < q → listed.getD ms[k] false = true) ∧ (∀ k (h : k < ms.length), q ≤ k → listed.getD ms[k] false = false) ∧ J q u w) →
      (∀ i, i < ops.size → listed.getD i false = true → G (slotOf ops i) (u (slotOf ops i))) → wpAny P .any ops Q fuel listed ⟨mk u, df⟩ w := by
  have hmlt : ∀ k (h : k < ms.length), ms[k] < ops.size := fun k h => by
    have := List.all_eq_true.1 hmn ms[k] (List.getElem_mem h)
    simpa using this
  have hfr : ∀ i, i < ops.size → ∃ o, ops[i]? = some o ∧ o ∈ ops.toList := fun i hi => ⟨ops[i], Array.getElem?_eq_getElem hi, by simp⟩
  have hfin : ∀ (listed : Array Bool) (u : Nat → Value) (w : World), listed.size = ops.size →
      (∃ q, q ≤ ms.length ∧ (∀ k (h : k < ms.length), k < q → listed.getD ms[k] false = true) ∧ (∀ k (h : k < ms.length), q ≤ k → listed.getD ms[k] false = false) ∧ J q u w) →
      (∀ i, i < ops.size → listed.getD i false = true → G (slotOf ops i) (u (slotOf ops i))) → Region.ready .any ops listed = [] → Q .normal ⟨mk u, df⟩ w := by
    intro listed u w hsz hq hF hr
    have hall : ∀ i, i < ops.size → listed.getD i false = true := by
      intro i
      induction i using Nat.strongRecOn with
      | ind i ih =>
        intro hi
        cases hl : listed.getD i false with
        | true => rfl
        | false =>
          exfalso
          have : i ∈ Region.ready .any ops listed := by
            refine mem_ready.2 ⟨?_, ops[i], Array.getElem?_eq_getElem hi, fun e he hb => ?_⟩
            · have hi' : i < listed.size := by omega
              simpa [hi'] using hl
            · have := tidyB_after ht (Array.getElem?_eq_getElem hi) he hb
              exact ih _ this (by omega)
          rw [hr] at this
          cases this
    obtain ⟨q, hq0, hq1, hq2, hj⟩ := hq
    obtain rfl : q = ms.length := by
      by_cases h : q < ms.length
      · have h1 := hq2 q h (Nat.le_refl _)
        rw [hall ms[q] (hmlt q h)] at h1
        cases h1
      · omega
    refine hend u w hj (alls_of _ fun o hmo => ?_)
    obtain ⟨j, hj2, rfl⟩ := List.mem_iff_getElem.1 hmo
    have hj3 : j < ops.size := by simpa using hj2
    have hoj : ops[j]? = some ops.toList[j] := by rw [← Array.getElem?_toList, List.getElem?_eq_getElem hj2]
    have := hF j hj3 (hall j hj3)
    have es : slotOf ops j = (ops.toList[j]).dst.getD 0 := by simp only [slotOf, hoj, Option.bind_some]
    rw [es] at this
    exact this
  intro fuel
  induction fuel with
  | zero =>
    intro listed u w hsz hn hC hq hF
    have hr : Region.ready .any ops listed = [] := by
      cases h : Region.ready .any ops listed with
      | nil => rfl
      | cons j l =>
        exfalso
        have hj : j ∈ Region.ready .any ops listed := by rw [h]; exact List.mem_cons_self
        obtain ⟨h0, o, ho, _⟩ := mem_ready.1 hj
        have hjs : j < listed.size := by have := (Array.getElem?_eq_some_iff.1 ho).1; omega
        have h1 : listed[j] = false := by simpa [hjs] using h0
        have h2 : 0 < listed.toList.countP (fun b => !b) := List.countP_pos_iff.2 ⟨false, by rw [← h1]; simp, rfl⟩
        omega
    exact ⟨hr, hfin listed u w hsz hq hF hr⟩
  | succ fuel ih =>
    intro listed u w hsz hn hC hq hF
    refine ⟨hfin listed u w hsz hq hF, fun i hi => ?_⟩
    obtain ⟨h0, o, ho, hall⟩ := mem_ready.1 hi
    have hio : i < ops.size := (Array.getElem?_eq_some_iff.1 ho).1
    have his : i < listed.size := by omega
    have hl0 : listed[i] = false := by simpa [his] using h0
    have hli : listed.getD i false = false := by simpa [his] using hl0
    have hcnt : (listed.setIfInBounds i true).toList.countP (fun b => !b) ≤ fuel := by
      have : (listed.setIfInBounds i true).toList = listed.toList.set i true := by simp
      rw [this, List.countP_set (by simpa using his)]
      have h2 : 0 < listed.toList.countP (fun b => !b) := List.countP_pos_iff.2 ⟨false, by rw [← hl0]; simp, rfl⟩
      have h3 : (!(listed.toList[i]'(by simpa using his))) = true := by simp [hl0]
      rw [if_pos h3]
      simp only [Bool.not_true, Bool.false_eq_true, if_false]
      omega
    have hC2 : i < ops.size → ∀ j oj e, (listed.setIfInBounds i true).getD j false = true → ops[j]? = some oj → e ∈ oj.after → Region.binds .any e = true → (listed.setIfInBounds i true).getD e.on false = true := by
      intro hin j oj e hlj hoj he hb
      by_cases ej : j = i
      · subst ej
        obtain rfl : oj = o := Option.some.inj (hoj.symm.trans ho)
        have := tidyB_after ht ho he hb
        rw [getD_set_ne false (by omega)]
        exact hall e he hb
      · rw [getD_set_ne false (Ne.symm ej)] at hlj
        have := hC j oj e hlj hoj he hb
        by_cases ee : e.on = i
        · rw [ee]
          simp [his]
        · rw [getD_set_ne false (Ne.symm ee)]
          exact this
    have hin : i < ops.size := hio
    · obtain ⟨o', ho', hmem⟩ := hfr i hin
      obtain rfl : o' = o := Option.some.inj (ho'.symm.trans ho)
      have e1' := putsQ_at hp o' hmem u
      obtain ⟨t, hd⟩ : ∃ t, o'.dst.getD 0 = t := ⟨_, rfl⟩
      have e1 : ∀ v, (⟨mk u, df⟩ : Act).put o'.dst v = ⟨mk (upd u t v), df⟩ := fun v => by rw [← hd]; exact e1' v
      have hslot : slotOf ops i = t := by rw [← hd]; simp [slotOf, ho]
      have hne : ∀ j, j < ops.size → j ≠ i → slotOf ops j ≠ t := fun j hj e h => e (tidyB_slot ht hj hin (by rw [h, hslot]))
      obtain ⟨q, hq0, hq1, hq2, hj⟩ := hq
      have hfi : ops.toList[i]? = some o' := by
        rw [← Array.getElem?_toList] at ho
        exact ho
      have hstep := stepsQ_at hs i o' hfi
      rw [Nat.zero_add] at hstep
      cases hx : ms.idxOf? i with
      | none =>
        rw [hx] at hstep
        have hnm : i ∉ ms := by simpa using hx
        have hqi : q ≤ lim i := by
          by_cases hc : q ≤ lim i
          · exact hc
          · exfalso
            have hlt : lim i < ms.length := by omega
            have h1 := List.all_eq_true.1 hlim i (List.mem_range.2 hin)
            rw [List.getElem?_eq_getElem hlt] at h1
            have h2 := reach_listed hC _ _ _ (by simpa using h1) (hq1 (lim i) hlt (by omega))
            rw [hli] at h2
            cases h2
        refine wpOp_step ho (fun K hK => hstep q hqi u w hj (deps_of _ fun e he hb => ?_) K ?_)
        · have he' : e ∈ o'.after := by simpa using he
          have := tidyB_after ht ho he' hb
          exact hF e.on (by omega) (hall e he' hb)
        · intro v hGv
          refine hK _ _ ?_
          rw [hd] at hGv
          rw [e1]
          refine ih _ _ w (by simpa using hsz) hcnt (hC2 hin) ⟨q, hq0, fun k h hk => ?_, fun k h hk => ?_, hJ q u _ w (fun m hm => ?_) hj⟩ (fun j hj2 hlj => ?_)
          · have hne2 : i ≠ ms[k] := fun e => hnm (e ▸ List.getElem_mem h)
            rw [getD_set_ne false hne2]
            exact hq1 k h hk
          · have hne2 : i ≠ ms[k] := fun e => hnm (e ▸ List.getElem_mem h)
            rw [getD_set_ne false hne2]
            exact hq2 k h hk
          · obtain ⟨k, hk, rfl⟩ := List.mem_iff_getElem.1 hm
            have := hne ms[k] (hmlt k hk) (fun e => hnm (e ▸ List.getElem_mem hk))
            simp [upd, this]
          · by_cases e : j = i
            · subst e
              rw [hslot]
              simpa [upd] using hGv
            · have hlj' : listed.getD j false = true := by
                rw [getD_set_ne false (Ne.symm e)] at hlj
                exact hlj
              simpa [upd, hne j hj2 e] using hF j hj2 hlj'
      | some k =>
        rw [hx] at hstep
        obtain ⟨hk, hki⟩ : ∃ h : k < ms.length, ms[k] = i := by
          have := List.idxOf?_eq_some_iff.1 hx
          obtain ⟨h1, h2, _⟩ := this
          exact ⟨h1, by simpa using h2⟩
        have hkq : k = q := by
          have h1 : q ≤ k := by
            by_cases h : k < q
            · have := hq1 k hk h
              rw [hki, hli] at this
              cases this
            · omega
          by_cases h2 : q < k
          · exfalso
            obtain ⟨d, rfl⟩ : ∃ d, k = d + 1 := ⟨k - 1, by omega⟩
            obtain ⟨o2, e2, ho2, he2, hon, hb2⟩ := chain_wait hch d hk
            rw [hki] at ho2
            obtain rfl : o2 = o' := Option.some.inj (ho2.symm.trans ho)
            have h3 := hall e2 he2 hb2
            rw [hon] at h3
            have h4 := hq2 d (by omega) (by omega)
            rw [h3] at h4
            cases h4
          · omega
        subst hkq
        refine wpOp_step ho (fun K hK => hstep u w hj (deps_of _ fun e he hb => ?_) K ?_)
        · have he' : e ∈ o'.after := by simpa using he
          have := tidyB_after ht ho he' hb
          exact hF e.on (by omega) (hall e he' hb)
        · intro v w' hj2 hGv
          refine hK _ _ ?_
          rw [hd] at hGv hj2
          rw [e1]
          have hdis : ∀ k' (h : k' < ms.length), k' ≠ k → i ≠ ms[k'] := fun k' h hne3 e => by
            rw [← hki] at e
            exact hne3 ((List.getElem_inj hnd).1 e.symm)
          refine ih _ _ w' (by simpa using hsz) hcnt (hC2 hin) ⟨k + 1, hk, fun k' h hk' => ?_, fun k' h hk' => ?_, hj2⟩ (fun j hj3 hlj => ?_)
          · by_cases e : k' = k
            · subst e
              rw [hki]
              simp [his]
            · rw [getD_set_ne false (hdis k' h e)]
              exact hq1 k' h (by omega)
          · rw [getD_set_ne false (hdis k' h (by omega))]
            exact hq2 k' h (by omega)
          · by_cases e : j = i
            · subst e
              rw [hslot]
              simpa [upd] using hGv
            · have hlj' : listed.getD j false = true := by
                rw [getD_set_ne false (Ne.symm e)] at hlj
                exact hlj
              simpa [upd, hne j hj3 e] using hF j hj3 hlj'

/-- THE LAW: as wp_region_phaseQ, without a last operation. -/
theorem wp_region_phaseR {id : Nat} {a : Act} {w0 : World} (mk : (Nat → Value) → Array Value) (G : Nat → Value → Prop) (J : Nat → (Nat → Value) → World → Prop) (ms : List Nat) (lim : Nat → Nat) (df : List Deferred) (u0 : Nat → Value) (ha : a = ⟨mk u0, df⟩) (hm : P.follows .mixedOrders = true)
    (ht : tidyB ops = true) (hch : chainOk ops ms = true) (hmn : ms.all (fun m => decide (m < ops.size)) = true) (hnd : ms.Nodup) (hp : PutsQ mk df ops.toList)
    (hJ : ∀ q u u' w, (∀ m ∈ ms, u (slotOf ops m) = u' (slotOf ops m)) → J q u w → J q u' w) (hJ0 : J 0 u0 w0.drew)
    (hlim : limOk ops ms lim ops.size = true) (hs : StepsQ P ops Q mk df G J ms lim 0 ops.toList)
    (hend : ∀ u w, J ms.length u w → Alls (fun t v _ => G t v) u w ops.toList → Q .normal ⟨mk u, df⟩ w) : (Code.region id ops true).wp P Q a w0 := by
  subst ha
  refine wp_region_any hm (phaseR_go ms ht hch hmn hnd hp hJ hlim hs hend _ _ u0 _ (by simp) ?_ ?_ ⟨0, Nat.zero_le _, fun k _ hk => by omega, fun k _ _ => rep_getD _ _, hJ0⟩ ?_)
  · have := List.countP_le_length (p := fun b => !b) (l := (Array.replicate ops.size false).toList)
    simpa using this
  · intro i o e h
    rw [rep_getD] at h
    cases h
  · intro i hi h
    rw [rep_getD] at h
    cases h
end
end Go.Proofs.Ythgibmhbgfjkcaa
