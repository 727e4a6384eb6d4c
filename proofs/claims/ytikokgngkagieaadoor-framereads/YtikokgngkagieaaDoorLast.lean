/- A region that draws its order and whose last operation, for which all others are waited, writes memory: gone through once an operation; of no statement by itself. -/
import Derived.Test.YtikokgngkagieaaDoorFree
import Derived.Test.YtikokgngkagieaaDoorMem
namespace Go.Proofs.YtikokgngkagieaaDoor
open Go.RowKit

section
variable {P : Program} {ops : Array Oper} {Q : Exit → Act → World → Prop} {F : Nat → Value → World → Prop} {mk : (Nat → Value) → Array Value}

/-- The first n operations' slots are distinct, none waits for a later one, and for each a later one waits. -/
def tidyL (ops : Array Oper) (n : Nat) : Bool :=
  ((List.range n).all fun i => (List.range n).all (fun j => i == j || slotOf ops i != slotOf ops j) && ((List.range (n + 1)).any fun j => decide (i < j) && ((ops[j]?).map fun o => o.after.toList.any fun e => e.on == i && Region.binds .any e).getD false))
  && (List.range (n + 1)).all fun i => ((ops[i]?).map fun o => o.after.toList.all fun e => decide (e.on < i)).getD true

theorem tidyL_slot {n : Nat} (h : tidyL ops n = true) {i j : Nat} (hi : i < n) (hj : j < n) (e : slotOf ops i = slotOf ops j) : i = j := by
  simp only [tidyL, Bool.and_eq_true] at h
  have h1 := List.all_eq_true.1 h.1 i (List.mem_range.2 hi)
  simp only [Bool.and_eq_true] at h1
  have h2 := List.all_eq_true.1 h1.1 j (List.mem_range.2 hj)
  simpa [e] using h2

theorem tidyL_after {n : Nat} (h : tidyL ops n = true) {i : Nat} (hi : i < n + 1) {o : Oper} (ho : ops[i]? = some o) {e : Edge} (he : e ∈ o.after) : e.on < i := by
  simp only [tidyL, Bool.and_eq_true] at h
  have h1 := List.all_eq_true.1 h.2 i (List.mem_range.2 hi)
  simp only [ho, Option.map_some, Option.getD_some] at h1
  have h2 := List.all_eq_true.1 h1 e (by simpa using he)
  simpa using h2

theorem tidyL_wait {n : Nat} (h : tidyL ops n = true) {i : Nat} (hi : i < n) : ∃ j o e, i < j ∧ j < n + 1 ∧ ops[j]? = some o ∧ e ∈ o.after ∧ e.on = i ∧ Region.binds .any e = true := by
  simp only [tidyL, Bool.and_eq_true] at h
  have h1 := List.all_eq_true.1 h.1 i (List.mem_range.2 hi)
  simp only [Bool.and_eq_true] at h1
  obtain ⟨j, hj, h2⟩ := List.any_eq_true.1 h1.2
  simp only [Bool.and_eq_true, decide_eq_true_eq] at h2
  cases ho : ops[j]? with
  | none => simp [ho] at h2
  | some o =>
    simp only [ho, Option.map_some, Option.getD_some] at h2
    obtain ⟨e, he, h3⟩ := List.any_eq_true.1 h2.2
    simp only [Bool.and_eq_true, beq_iff_eq] at h3
    exact ⟨j, o, e, h2.1, List.mem_range.1 hj, ho, by simpa using he, h3.1, h3.2⟩

theorem last_go (w0 : World) (front : List Oper) (last : Oper) (hops : ops.toList = front ++ [last]) (ht : tidyL ops front.length = true) (hp : Puts mk front) (hst : ∀ t v w w', Chg (fun _ => False) w w' → F t v w → F t v w')
    (hs : Steps P ops Q mk F w0 front)
    (hend : ∀ u w, Chg (fun _ => False) w0 w → Alls F u w front → ∀ K : Act → World → Prop, Shut (∀ a w', Q .normal a w' → K a w') →
      if Region.wanted last (yielded ops (mk u)) = true then Oper.wp P last ⟨mk u, []⟩ w K Q else K ((⟨mk u, []⟩ : Act).put last.dst undef) w) :
    ∀ (fuel : Nat) (listed : Array Bool) (u : Nat → Value) (w : World), listed.size = ops.size → listed.toList.countP (fun b => !b) ≤ fuel → Chg (fun _ => False) w0 w →
      listed.getD front.length false = false →
      (∀ i o e, listed.getD i false = true → ops[i]? = some o → e ∈ o.after → Region.binds .any e = true → listed.getD e.on false = true) →
      (∀ i, i < front.length → listed.getD i false = true → F (slotOf ops i) (u (slotOf ops i)) w) → wpAny P .any ops Q fuel listed ⟨mk u, []⟩ w := by
  have hsz0 : ops.size = front.length + 1 := by
    have := congrArg List.length hops
    simpa using this
  have hfr : ∀ i, i < front.length → ∃ o, ops[i]? = some o ∧ o ∈ front := by
    intro i hi
    refine ⟨front[i], ?_, List.getElem_mem _⟩
    rw [← Array.getElem?_toList, hops, List.getElem?_append_left hi, List.getElem?_eq_getElem hi]
  have hla : ops[front.length]? = some last := by
    rw [← Array.getElem?_toList, hops]
    simp
  have hno : ∀ (listed : Array Bool), listed.size = ops.size → listed.getD front.length false = false → Region.ready .any ops listed = [] → False := by
    intro listed hsz hl hr
    have hall : ∀ i, i < ops.size → listed.getD i false = true := by
      intro i
      induction i using Nat.strongRecOn with
      | ind i ih =>
        intro hi
        cases hl : listed.getD i false with
        | true => rfl
        | false =>
          exfalso
          have : i ∈ Region.ready .any ops listed := by
            refine mem_ready.2 ⟨?_, ops[i], Array.getElem?_eq_getElem hi, fun e he _ => ?_⟩
            · have hi' : i < listed.size := by omega
              simpa [hi'] using hl
            · have := tidyL_after ht (by omega) (Array.getElem?_eq_getElem hi) he
              exact ih _ this (by omega)
          rw [hr] at this
          cases this
    rw [hall _ (by omega)] at hl
    cases hl
  intro fuel
  induction fuel with
  | zero =>
    intro listed u w hsz hn hc hL hC hF
    exfalso
    have hjs : front.length < listed.size := by omega
    have h1 : listed[front.length] = false := by simpa [hjs] using hL
    have h2 : 0 < listed.toList.countP (fun b => !b) := List.countP_pos_iff.2 ⟨false, by rw [← h1]; simp, rfl⟩
    omega
  | succ fuel ih =>
    intro listed u w hsz hn hc hL hC hF
    refine ⟨fun hr => (hno listed hsz hL hr).elim, fun i hi => ?_⟩
    obtain ⟨h0, o, ho, hall⟩ := mem_ready.1 hi
    have hio : i < ops.size := (Array.getElem?_eq_some_iff.1 ho).1
    have his : i < listed.size := by omega
    have hl0 : listed[i] = false := by simpa [his] using h0
    have hcnt : (listed.setIfInBounds i true).toList.countP (fun b => !b) ≤ fuel := by
      have : (listed.setIfInBounds i true).toList = listed.toList.set i true := by simp
      rw [this, List.countP_set (by simpa using his)]
      have h2 : 0 < listed.toList.countP (fun b => !b) := List.countP_pos_iff.2 ⟨false, by rw [← hl0]; simp, rfl⟩
      have h3 : (!(listed.toList[i]'(by simpa using his))) = true := by simp [hl0]
      rw [if_pos h3]
      simp only [Bool.not_true, Bool.false_eq_true, if_false]
      omega
    by_cases hin : i < front.length
    · obtain ⟨o', ho', hmem⟩ := hfr i hin
      obtain rfl : o' = o := Option.some.inj (ho'.symm.trans ho)
      obtain ⟨t, hd, hput⟩ := puts_at hp o' hmem
      refine wpOp_step ho (fun K hK => steps_at hs o' hmem u w hc (deps_of _ fun e he hb => ?_) K ?_)
      · have he' : e ∈ o'.after := by simpa using he
        have := tidyL_after ht (by omega) ho he'
        exact hF e.on (by omega) (hall e he' hb)
      · intro v w' hcw hFv
        refine hK _ _ ?_
        rw [hd] at hFv ⊢
        have e1 : (⟨mk u, []⟩ : Act).put (some t) v = ⟨mk (upd u t v), []⟩ := by
          show Act.mk ((mk u).setIfInBounds t v) [] = _
          rw [hput]
        rw [e1]
        refine ih _ _ w' (by simpa using hsz) hcnt (hc.trans hcw (fun _ f => f.elim)) ?_ ?_ ?_
        · rw [getD_set_ne false (by omega)]
          exact hL
        · intro j oj e hlj hoj he hb
          by_cases ej : j = i
          · subst ej
            obtain rfl : oj = o' := Option.some.inj (hoj.symm.trans ho)
            have := tidyL_after ht (by omega) ho he
            rw [getD_set_ne false (by omega)]
            exact hall e he hb
          · rw [getD_set_ne false (Ne.symm ej)] at hlj
            have := hC j oj e hlj hoj he hb
            by_cases ee : e.on = i
            · rw [ee]
              simp [his]
            · rw [getD_set_ne false (Ne.symm ee)]
              exact this
        · intro j hj hlj
          by_cases e : j = i
          · subst e
            rw [slotOf_eq ho hd]
            simpa [upd] using hFv
          · have hne : slotOf ops j ≠ t := fun h => e (tidyL_slot ht hj hin (by rw [h, slotOf_eq ho hd]))
            have hlj' : listed.getD j false = true := by
              rw [getD_set_ne false (Ne.symm e)] at hlj
              exact hlj
            have := hst _ _ _ _ hcw (hF j hj hlj')
            simpa [upd, hne] using this
    · obtain rfl : i = front.length := by omega
      obtain rfl : last = o := Option.some.inj (hla.symm.trans ho)
      have hall2 : ∀ d j, j + d + 1 = front.length → listed.getD j false = true := by
        intro d
        induction d using Nat.strongRecOn with
        | ind d ihd =>
          intro j hj
          obtain ⟨k, o, e, hjk, hkn, hok, he, heo, hb⟩ := tidyL_wait ht (show j < front.length by omega)
          by_cases hk : k = front.length
          · subst hk
            obtain rfl : o = last := Option.some.inj (hok.symm.trans ho)
            have := hall e he hb
            rwa [heo] at this
          · have h1 := ihd (front.length - k - 1) (by omega) k (by omega)
            have := hC k o e h1 hok he hb
            rwa [heo] at this
      have hA : Alls F u w front := by
        refine alls_of _ fun o hmo => ?_
        obtain ⟨j, hj, rfl⟩ := List.mem_iff_getElem.1 hmo
        obtain ⟨t, hd, _⟩ := puts_at hp _ hmo
        have hoj : ops[j]? = some front[j] := by rw [← Array.getElem?_toList, hops, List.getElem?_append_left hj, List.getElem?_eq_getElem hj]
        have := hF j hj (hall2 (front.length - j - 1) j (by omega))
        rw [slotOf_eq hoj hd] at this
        simpa [hd] using this
      refine wpOp_step ho (fun K hK => hend u w hc hA K (fun a w' hq => hK _ _ ?_))
      have hr : Region.ready .any ops (listed.setIfInBounds front.length true) = [] := by
        cases h : Region.ready .any ops (listed.setIfInBounds front.length true) with
        | nil => rfl
        | cons j l =>
          exfalso
          have hj : j ∈ Region.ready .any ops (listed.setIfInBounds front.length true) := by rw [h]; exact List.mem_cons_self
          obtain ⟨h0, o, ho, _⟩ := mem_ready.1 hj
          have hjs : j < ops.size := (Array.getElem?_eq_some_iff.1 ho).1
          by_cases e : j = front.length
          · subst e
            simp [his] at h0
          · have := hall2 (front.length - j - 1) j (by omega)
            have h1 : (listed.setIfInBounds front.length true).getD j false = true := by rw [getD_set_ne false (Ne.symm e)]; exact this
            have hj2 : j < (listed.setIfInBounds front.length true).size := by simp; omega
            rw [Array.getD_eq_getD_getElem?, Array.getElem?_eq_getElem hj2] at h1
            simp only [Option.getD_some] at h1
            rw [Array.getD_eq_getD_getElem?, Array.getElem?_eq_getElem hj2] at h0
            simp only [Option.getD_some] at h0
            rw [h1] at h0
            cases h0
      cases fuel with
      | zero => exact ⟨hr, hq⟩
      | succ f => exact ⟨fun _ => hq, fun i hi => by rw [hr] at hi; cases hi⟩

theorem rep_getD (n i : Nat) : (Array.replicate n false).getD i false = false := by
  rw [Array.getD_eq_getD_getElem?, Array.getElem?_replicate]
  split <;> rfl

/-- THE LAW: a region that draws its order; its last operation, for which all others are waited, is the prover's. -/
theorem wp_region_last {id : Nat} {a : Act} {w0 : World} (mk : (Nat → Value) → Array Value) (F : Nat → Value → World → Prop) (u0 : Nat → Value) (ha : a = ⟨mk u0, []⟩) (hm : P.follows .mixedOrders = true) (n : Nat) (last : Oper) (hn : ops.size = n + 1) (hl : ops[n]? = some last) (ht : tidyL ops n = true) (hp : Puts mk (ops.toList.take n))
    (hst : ∀ t v w w', Chg (fun _ => False) w w' → F t v w → F t v w')
    (hs : Steps P ops Q mk F w0 (ops.toList.take n))
    (hend : ∀ u w, Chg (fun _ => False) w0 w → Alls F u w (ops.toList.take n) → ∀ K : Act → World → Prop, Shut (∀ a w', Q .normal a w' → K a w') →
      if Region.wanted last (yielded ops (mk u)) = true then Oper.wp P last ⟨mk u, []⟩ w K Q else K ((⟨mk u, []⟩ : Act).put last.dst undef) w) : (Code.region id ops true).wp P Q a w0 := by
  subst ha
  have hlen : (ops.toList.take n).length = n := by simp; omega
  have hops : ops.toList = ops.toList.take n ++ [last] := by
    have h1 : ops.toList[n]? = some last := by simpa using hl
    obtain ⟨h2, h3⟩ := List.getElem?_eq_some_iff.1 h1
    have h4 := List.take_succ_eq_append_getElem h2
    rw [h3] at h4
    rw [← h4, List.take_of_length_le (by simp; omega)]
  refine wp_region_any hm (last_go w0 (ops.toList.take n) last hops (by rw [hlen]; exact ht) hp hst hs hend _ _ u0 _ (by simp) ?_ ((Chg.refl _ w0).drew) ?_ ?_ ?_)
  · have := List.countP_le_length (p := fun b => !b) (l := (Array.replicate ops.size false).toList)
    simpa using this
  · exact rep_getD _ _
  · intro i o e h
    rw [rep_getD] at h
    cases h
  · intro i hi h
    rw [rep_getD] at h
    cases h
end
end Go.Proofs.YtikokgngkagieaaDoor
