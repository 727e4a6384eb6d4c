/- A region that draws its order; some of its operations turn memory, in any order that their waiting leaves: a state tells which of them are done; of no statement by itself. -/
import Derived.Test.YtikokgngkagieaaDoorLastQ
namespace Go.Proofs.YtikokgngkagieaaDoor
open Go.RowKit
set_option linter.unusedVariables false

section
variable {P : Program} {ops : Array Oper} {Q : Exit → Act → World → Prop} {G : Nat → Value → Prop} {J : (Nat → Bool) → (Nat → Value) → World → Prop} {mk : (Nat → Value) → Array Value} {df : List Deferred}

/-- One more is done. -/
def also (L : Nat → Bool) (i : Nat) : Nat → Bool := fun j => if j = i then true else L j
/-- An operation that only reads. -/
def StepRS (P : Program) (ops : Array Oper) (Q : Exit → Act → World → Prop) (mk : (Nat → Value) → Array Value) (df : List Deferred) (G : Nat → Value → Prop) (J : (Nat → Bool) → (Nat → Value) → World → Prop) (o : Oper) : Prop :=
  ∀ (L : Nat → Bool) (u : Nat → Value) (w : World), J L u w → Deps ops (fun t v _ => G t v) u w o.after.toList →
      ∀ K : Act → World → Prop, Shut (∀ v, G (o.dst.getD 0) v → K ((⟨mk u, df⟩ : Act).put o.dst v) w) →
      if Region.wanted o (yielded ops (mk u)) = true then Oper.wp P o ⟨mk u, df⟩ w K Q else K ((⟨mk u, df⟩ : Act).put o.dst undef) w
/-- Operation i, which turns memory. -/
def StepWS (P : Program) (ops : Array Oper) (Q : Exit → Act → World → Prop) (mk : (Nat → Value) → Array Value) (df : List Deferred) (G : Nat → Value → Prop) (J : (Nat → Bool) → (Nat → Value) → World → Prop) (i : Nat) (o : Oper) : Prop :=
  ∀ (L : Nat → Bool) (u : Nat → Value) (w : World), J L u w → L i = false → (∀ e ∈ o.after.toList, Region.binds .any e = true → L e.on = true) → Deps ops (fun t v _ => G t v) u w o.after.toList →
      ∀ K : Act → World → Prop, Shut (∀ v w', J (also L i) (upd u (o.dst.getD 0) v) w' → G (o.dst.getD 0) v → K ((⟨mk u, df⟩ : Act).put o.dst v) w') →
      if Region.wanted o (yielded ops (mk u)) = true then Oper.wp P o ⟨mk u, df⟩ w K Q else K ((⟨mk u, df⟩ : Act).put o.dst undef) w
/-- The operations from number i on, those of ms turning memory. -/
def StepsS (P : Program) (ops : Array Oper) (Q : Exit → Act → World → Prop) (mk : (Nat → Value) → Array Value) (df : List Deferred) (G : Nat → Value → Prop) (J : (Nat → Bool) → (Nat → Value) → World → Prop) (ms : List Nat) : Nat → List Oper → Prop
  | _, [] => True
  | i, o :: r => (if ms.contains i = true then StepWS P ops Q mk df G J i o else StepRS P ops Q mk df G J o) ∧ StepsS P ops Q mk df G J ms (i + 1) r
theorem stepsS_at {ms : List Nat} : ∀ {l : List Oper} {b : Nat}, StepsS P ops Q mk df G J ms b l → ∀ k o, l[k]? = some o → (if ms.contains (b + k) = true then StepWS P ops Q mk df G J (b + k) o else StepRS P ops Q mk df G J o)
  | [], _, _, k, o, h => by simp at h
  | o' :: l, b, hs, 0, o, h => by
    simp only [List.getElem?_cons_zero, Option.some.injEq] at h
    subst h
    exact hs.1
  | o' :: l, b, hs, k + 1, o, h => by
    rw [List.getElem?_cons_succ] at h
    have := stepsS_at hs.2 k o h
    rw [show b + (k + 1) = b + 1 + k by omega]
    exact this

theorem set_go (front : List Oper) (last : Oper) (ms : List Nat) (hops : ops.toList = front ++ [last]) (ht : tidyL ops front.length = true) (hmn : ms.all (fun m => decide (m < front.length)) = true) (hp : PutsQ mk df front)
    (hJ : ∀ L L' u u' w, (∀ m ∈ ms, L m = L' m ∧ u (slotOf ops m) = u' (slotOf ops m)) → J L u w → J L' u' w)
    (hs : StepsS P ops Q mk df G J ms 0 front)
    (hend : ∀ u w, J (fun _ => true) u w → Alls (fun t v _ => G t v) u w front → ∀ K : Act → World → Prop, Shut (∀ a w', Q .normal a w' → K a w') →
      if Region.wanted last (yielded ops (mk u)) = true then Oper.wp P last ⟨mk u, df⟩ w K Q else K ((⟨mk u, df⟩ : Act).put last.dst undef) w) :
    ∀ (fuel : Nat) (listed : Array Bool) (u : Nat → Value) (w : World), listed.size = ops.size → listed.toList.countP (fun b => !b) ≤ fuel →
      listed.getD front.length false = false →
      (∀ i o e, listed.getD i false = true → ops[i]? = some o → e ∈ o.after → Region.binds .any e = true → listed.getD e.on false = true) →
      J (fun i => listed.getD i false) u w →
      (∀ i, i < front.length → listed.getD i false = true → G (slotOf ops i) (u (slotOf ops i))) → wpAny P .any ops Q fuel listed ⟨mk u, df⟩ w := by
  have hsz0 : ops.size = front.length + 1 := by
    have := congrArg List.length hops
    simpa using this
  have hmlt : ∀ k (h : k < ms.length), ms[k] < front.length := fun k h => by
    have := List.all_eq_true.1 hmn ms[k] (List.getElem_mem h)
    simpa using this
  have hfr : ∀ i, i < front.length → ∃ o, ops[i]? = some o ∧ o ∈ front := by
    intro i hi
    refine ⟨front[i], ?_, List.getElem_mem _⟩
    rw [← Array.getElem?_toList, hops, List.getElem?_append_left hi, List.getElem?_eq_getElem hi]
  have hla : ops[front.length]? = some last := by
    rw [← Array.getElem?_toList, hops]
    simp
  have hno : ∀ (listed : Array Bool), listed.size = ops.size → listed.getD front.length false = false → Region.ready .any ops listed = [] → False := by
    intro listed hsz hl hr
    have hall : ∀ i, i < ops.size → listed.getD i false = true := by
      intro i
      induction i using Nat.strongRecOn with
      | ind i ih =>
        intro hi
        cases hl : listed.getD i false with
        | true => rfl
        | false =>
          exfalso
          have : i ∈ Region.ready .any ops listed := by
            refine mem_ready.2 ⟨?_, ops[i], Array.getElem?_eq_getElem hi, fun e he _ => ?_⟩
            · have hi' : i < listed.size := by omega
              simpa [hi'] using hl
            · have := tidyL_after ht (by omega) (Array.getElem?_eq_getElem hi) he
              exact ih _ this (by omega)
          rw [hr] at this
          cases this
    rw [hall _ (by omega)] at hl
    cases hl
  intro fuel
  induction fuel with
  | zero =>
    intro listed u w hsz hn hL hC hq hF
    exfalso
    have hjs : front.length < listed.size := by omega
    have h1 : listed[front.length] = false := by simpa [hjs] using hL
    have h2 : 0 < listed.toList.countP (fun b => !b) := List.countP_pos_iff.2 ⟨false, by rw [← h1]; simp, rfl⟩
    omega
  | succ fuel ih =>
    intro listed u w hsz hn hL hC hq hF
    refine ⟨fun hr => (hno listed hsz hL hr).elim, fun i hi => ?_⟩
    obtain ⟨h0, o, ho, hall⟩ := mem_ready.1 hi
    have hio : i < ops.size := (Array.getElem?_eq_some_iff.1 ho).1
    have his : i < listed.size := by omega
    have hl0 : listed[i] = false := by simpa [his] using h0
    have hli : listed.getD i false = false := by simpa [his] using hl0
    have hcnt : (listed.setIfInBounds i true).toList.countP (fun b => !b) ≤ fuel := by
      have : (listed.setIfInBounds i true).toList = listed.toList.set i true := by simp
      rw [this, List.countP_set (by simpa using his)]
      have h2 : 0 < listed.toList.countP (fun b => !b) := List.countP_pos_iff.2 ⟨false, by rw [← hl0]; simp, rfl⟩
      have h3 : (!(listed.toList[i]'(by simpa using his))) = true := by simp [hl0]
      rw [if_pos h3]
      simp only [Bool.not_true, Bool.false_eq_true, if_false]
      omega
    have hC2 : i < front.length → ∀ j oj e, (listed.setIfInBounds i true).getD j false = true → ops[j]? = some oj → e ∈ oj.after → Region.binds .any e = true → (listed.setIfInBounds i true).getD e.on false = true := by
      intro hin j oj e hlj hoj he hb
      by_cases ej : j = i
      · subst ej
        obtain rfl : oj = o := Option.some.inj (hoj.symm.trans ho)
        have := tidyL_after ht (by omega) ho he
        rw [getD_set_ne false (by omega)]
        exact hall e he hb
      · rw [getD_set_ne false (Ne.symm ej)] at hlj
        have := hC j oj e hlj hoj he hb
        by_cases ee : e.on = i
        · rw [ee]
          simp [his]
        · rw [getD_set_ne false (Ne.symm ee)]
          exact this
    by_cases hin : i < front.length
    · obtain ⟨o', ho', hmem⟩ := hfr i hin
      obtain rfl : o' = o := Option.some.inj (ho'.symm.trans ho)
      have e1' := putsQ_at hp o' hmem u
      obtain ⟨t, hd⟩ : ∃ t, o'.dst.getD 0 = t := ⟨_, rfl⟩
      have e1 : ∀ v, (⟨mk u, df⟩ : Act).put o'.dst v = ⟨mk (upd u t v), df⟩ := fun v => by rw [← hd]; exact e1' v
      have hslot : slotOf ops i = t := by rw [← hd]; simp [slotOf, ho]
      have hne : ∀ j, j < front.length → j ≠ i → slotOf ops j ≠ t := fun j hj e h => e (tidyL_slot ht hj hin (by rw [h, hslot]))
      have hj := hq
      have hfi : front[i]? = some o' := by
        rw [← Array.getElem?_toList, hops, List.getElem?_append_left hin] at ho
        exact ho
      have hstep := stepsS_at hs i o' hfi
      rw [Nat.zero_add] at hstep
      have hFn : ∀ v, G t v → ∀ j, j < front.length → (listed.setIfInBounds i true).getD j false = true → G (slotOf ops j) (upd u t v (slotOf ops j)) := fun v hGv j hj2 hlj => by
        by_cases e : j = i
        · subst e
          rw [hslot]
          simpa [upd] using hGv
        · have hlj' : listed.getD j false = true := by
            rw [getD_set_ne false (Ne.symm e)] at hlj
            exact hlj
          simpa [upd, hne j hj2 e] using hF j hj2 hlj'
      by_cases hx : ms.contains i = true
      · rw [if_pos hx] at hstep
        refine wpOp_step ho (fun K hK => hstep _ u w hj hli (fun e he hb => hall e (by simpa using he) hb) (deps_of _ fun e he hb => ?_) K ?_)
        · have he' : e ∈ o'.after := by simpa using he
          have := tidyL_after ht (by omega) ho he'
          exact hF e.on (by omega) (hall e he' hb)
        · intro v w' hj2 hGv
          refine hK _ _ ?_
          rw [hd] at hGv hj2
          rw [e1]
          refine ih _ _ w' (by simpa using hsz) hcnt (by rw [getD_set_ne false (by omega)]; exact hL) (hC2 hin) (hJ _ _ _ _ _ (fun m hm => ⟨?_, rfl⟩) hj2) (hFn v hGv)
          unfold also
          by_cases e : m = i
          · subst e
            simp [his]
          · rw [if_neg e, getD_set_ne false (Ne.symm e)]
      · rw [if_neg hx] at hstep
        have hnm : i ∉ ms := fun h => hx (by simpa using h)
        refine wpOp_step ho (fun K hK => hstep _ u w hj (deps_of _ fun e he hb => ?_) K ?_)
        · have he' : e ∈ o'.after := by simpa using he
          have := tidyL_after ht (by omega) ho he'
          exact hF e.on (by omega) (hall e he' hb)
        · intro v hGv
          refine hK _ _ ?_
          rw [hd] at hGv
          rw [e1]
          refine ih _ _ w (by simpa using hsz) hcnt (by rw [getD_set_ne false (by omega)]; exact hL) (hC2 hin) (hJ _ _ u _ w (fun m hm => ⟨?_, ?_⟩) hj) (hFn v hGv)
          · have hne2 : i ≠ m := fun e => hnm (e ▸ hm)
            rw [getD_set_ne false hne2]
          · have hml : m < front.length := by
              have := List.all_eq_true.1 hmn m hm
              simpa using this
            have := hne m hml (fun e => hnm (e ▸ hm))
            simp [upd, this]
    · obtain rfl : i = front.length := by omega
      obtain rfl : last = o := Option.some.inj (hla.symm.trans ho)
      have hall2 : ∀ d j, j + d + 1 = front.length → listed.getD j false = true := by
        intro d
        induction d using Nat.strongRecOn with
        | ind d ihd =>
          intro j hj
          obtain ⟨k, o, e, hjk, hkn, hok, he, heo, hb⟩ := tidyL_wait ht (show j < front.length by omega)
          by_cases hk : k = front.length
          · subst hk
            obtain rfl : o = last := Option.some.inj (hok.symm.trans ho)
            have := hall e he hb
            rwa [heo] at this
          · have h1 := ihd (front.length - k - 1) (by omega) k (by omega)
            have := hC k o e h1 hok he hb
            rwa [heo] at this
      have hj : J (fun _ => true) u w := hJ _ _ _ _ _ (fun m hm => ⟨by
        have hml : m < front.length := by
          have := List.all_eq_true.1 hmn m hm
          simpa using this
        exact hall2 (front.length - m - 1) m (by omega), rfl⟩) hq
      have hA : Alls (fun t v _ => G t v) u w front := by
        refine alls_of _ fun o hmo => ?_
        obtain ⟨j, hj2, rfl⟩ := List.mem_iff_getElem.1 hmo
        have hoj : ops[j]? = some front[j] := by rw [← Array.getElem?_toList, hops, List.getElem?_append_left hj2, List.getElem?_eq_getElem hj2]
        have := hF j hj2 (hall2 (front.length - j - 1) j (by omega))
        have es : slotOf ops j = (front[j]).dst.getD 0 := by simp [slotOf, hoj]
        rw [es] at this
        exact this
      refine wpOp_step ho (fun K hK => hend u w hj hA K (fun a w' hq => hK _ _ ?_))
      have hr : Region.ready .any ops (listed.setIfInBounds front.length true) = [] := by
        cases h : Region.ready .any ops (listed.setIfInBounds front.length true) with
        | nil => rfl
        | cons j l =>
          exfalso
          have hj : j ∈ Region.ready .any ops (listed.setIfInBounds front.length true) := by rw [h]; exact List.mem_cons_self
          obtain ⟨h0, o, ho, _⟩ := mem_ready.1 hj
          have hjs : j < ops.size := (Array.getElem?_eq_some_iff.1 ho).1
          by_cases e : j = front.length
          · subst e
            simp [his] at h0
          · have := hall2 (front.length - j - 1) j (by omega)
            have h1 : (listed.setIfInBounds front.length true).getD j false = true := by rw [getD_set_ne false (Ne.symm e)]; exact this
            have hj2 : j < (listed.setIfInBounds front.length true).size := by simp; omega
            rw [Array.getD_eq_getD_getElem?, Array.getElem?_eq_getElem hj2] at h1
            simp only [Option.getD_some] at h1
            rw [Array.getD_eq_getD_getElem?, Array.getElem?_eq_getElem hj2] at h0
            simp only [Option.getD_some] at h0
            rw [h1] at h0
            cases h0
      cases fuel with
      | zero => exact ⟨hr, hq⟩
      | succ f => exact ⟨fun _ => hq, fun i hi => by rw [hr] at hi; cases hi⟩

/-- THE LAW: a region that draws its order, some of whose operations turn memory, each behind the one before; the last operation is the prover's. -/
theorem wp_region_set {id : Nat} {a : Act} {w0 : World} (mk : (Nat → Value) → Array Value) (G : Nat → Value → Prop) (J : (Nat → Bool) → (Nat → Value) → World → Prop) (ms : List Nat) (df : List Deferred) (u0 : Nat → Value) (ha : a = ⟨mk u0, df⟩) (hm : P.follows .mixedOrders = true)
    (n : Nat) (last : Oper) (hn : ops.size = n + 1) (hl : ops[n]? = some last) (ht : tidyL ops n = true) (hmn : ms.all (fun m => decide (m < n)) = true) (hp : PutsQ mk df (ops.toList.take n))
    (hJ : ∀ L L' u u' w, (∀ m ∈ ms, L m = L' m ∧ u (slotOf ops m) = u' (slotOf ops m)) → J L u w → J L' u' w) (hJ0 : J (fun _ => false) u0 w0.drew)
    (hs : StepsS P ops Q mk df G J ms 0 (ops.toList.take n))
    (hend : ∀ u w, J (fun _ => true) u w → Alls (fun t v _ => G t v) u w (ops.toList.take n) → ∀ K : Act → World → Prop, Shut (∀ a w', Q .normal a w' → K a w') →
      if Region.wanted last (yielded ops (mk u)) = true then Oper.wp P last ⟨mk u, df⟩ w K Q else K ((⟨mk u, df⟩ : Act).put last.dst undef) w) : (Code.region id ops true).wp P Q a w0 := by
  subst ha
  have hlen : (ops.toList.take n).length = n := by simp; omega
  have hops : ops.toList = ops.toList.take n ++ [last] := by
    have h1 : ops.toList[n]? = some last := by simpa using hl
    obtain ⟨h2, h3⟩ := List.getElem?_eq_some_iff.1 h1
    have h4 := List.take_succ_eq_append_getElem h2
    rw [h3] at h4
    rw [← h4, List.take_of_length_le (by simp; omega)]
  refine wp_region_any hm (set_go (ops.toList.take n) last ms hops (by rw [hlen]; exact ht) (by rw [hlen]; exact hmn) hp hJ hs hend _ _ u0 _ (by simp) ?_ (rep_getD _ _) ?_ (hJ _ _ _ _ _ (fun m hm => ⟨(rep_getD _ _).symm, rfl⟩) hJ0) ?_)
  · have := List.countP_le_length (p := fun b => !b) (l := (Array.replicate ops.size false).toList)
    simpa using this
  · intro i o e h
    rw [rep_getD] at h
    cases h
  · intro i hi h
    rw [rep_getD] at h
    cases h
end
end Go.Proofs.YtikokgngkagieaaDoor
