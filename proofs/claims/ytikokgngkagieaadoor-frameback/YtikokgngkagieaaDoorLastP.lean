/- A region that draws its order; some of its operations (calls, appends), each behind the one before, turn memory: a state goes on with each of them ('J'); all others only read: gone through once an operation; of no statement by itself. -/
import Derived.Test.YtikokgngkagieaaDoorFacts
namespace Go.Proofs.YtikokgngkagieaaDoor
open Go.RowKit

section
variable {P : Program} {ops : Array Oper} {Q : Exit → Act → World → Prop} {G : Nat → Value → Prop} {J : Nat → (Nat → Value) → World → Prop} {mk : (Nat → Value) → Array Value}

/-- Facts of slots, by a list. -/
def lookG (l : List (Nat × Value)) (t : Nat) (v : Value) : Prop := match l.lookup t with | some x => v = x | none => True

/-- Each of these operations waits for the one before. -/
def chainOk (ops : Array Oper) : List Nat → Bool
  | a :: b :: r => ((ops[b]?).map fun o => o.after.toList.any fun e => e.on == a && Region.binds .any e).getD false && chainOk ops (b :: r)
  | _ => true

theorem chain_wait : ∀ {ms : List Nat}, chainOk ops ms = true → ∀ k (h : k + 1 < ms.length), ∃ o e, ops[ms[k + 1]]? = some o ∧ e ∈ o.after ∧ e.on = ms[k] ∧ Region.binds .any e = true
  | [], _, k, h => by simp at h
  | [a], _, k, h => by simp at h
  | a :: b :: r, hc, 0, h => by
    simp only [chainOk, Bool.and_eq_true] at hc
    cases ho : ops[b]? with
    | none => simp [ho] at hc
    | some o =>
      simp only [ho, Option.map_some, Option.getD_some] at hc
      obtain ⟨e, he, h3⟩ := List.any_eq_true.1 hc.1
      simp only [Bool.and_eq_true, beq_iff_eq] at h3
      exact ⟨o, e, by simpa using ho, by simpa using he, by simpa using h3.1, h3.2⟩
  | a :: b :: r, hc, k + 1, h => by
    simp only [chainOk, Bool.and_eq_true] at hc
    have := chain_wait hc.2 k (by simpa using h)
    simpa using this

/-- An operation that only reads: in every state it gives its slot a value with its own fact. -/
def StepR (P : Program) (ops : Array Oper) (Q : Exit → Act → World → Prop) (mk : (Nat → Value) → Array Value) (G : Nat → Value → Prop) (J : Nat → (Nat → Value) → World → Prop) (o : Oper) : Prop :=
  ∀ (q : Nat) (u : Nat → Value) (w : World), J q u w → Deps ops (fun t v _ => G t v) u w o.after.toList →
      ∀ K : Act → World → Prop, Shut (∀ v, G (o.dst.getD 0) v → K ((⟨mk u, []⟩ : Act).put o.dst v) w) →
      if Region.wanted o (yielded ops (mk u)) = true then Oper.wp P o ⟨mk u, []⟩ w K Q else K ((⟨mk u, []⟩ : Act).put o.dst undef) w
/-- An operation that turns memory: from the state q to the next. -/
def StepW (P : Program) (ops : Array Oper) (Q : Exit → Act → World → Prop) (mk : (Nat → Value) → Array Value) (G : Nat → Value → Prop) (J : Nat → (Nat → Value) → World → Prop) (q : Nat) (o : Oper) : Prop :=
  ∀ (u : Nat → Value) (w : World), J q u w → Deps ops (fun t v _ => G t v) u w o.after.toList →
      ∀ K : Act → World → Prop, Shut (∀ v w', J (q + 1) (upd u (o.dst.getD 0) v) w' → G (o.dst.getD 0) v → K ((⟨mk u, []⟩ : Act).put o.dst v) w') →
      if Region.wanted o (yielded ops (mk u)) = true then Oper.wp P o ⟨mk u, []⟩ w K Q else K ((⟨mk u, []⟩ : Act).put o.dst undef) w
/-- The operations from number i on, those of ms turning memory. -/
def StepsP (P : Program) (ops : Array Oper) (Q : Exit → Act → World → Prop) (mk : (Nat → Value) → Array Value) (G : Nat → Value → Prop) (J : Nat → (Nat → Value) → World → Prop) (ms : List Nat) : Nat → List Oper → Prop
  | _, [] => True
  | i, o :: r => (match ms.idxOf? i with | none => StepR P ops Q mk G J o | some q => StepW P ops Q mk G J q o) ∧ StepsP P ops Q mk G J ms (i + 1) r

theorem stepsP_at {ms : List Nat} : ∀ {l : List Oper} {b : Nat}, StepsP P ops Q mk G J ms b l → ∀ k o, l[k]? = some o → (match ms.idxOf? (b + k) with | none => StepR P ops Q mk G J o | some q => StepW P ops Q mk G J q o)
  | [], _, _, k, o, h => by simp at h
  | o' :: l, b, hs, 0, o, h => by
    simp only [List.getElem?_cons_zero, Option.some.injEq] at h
    subst h
    exact hs.1
  | o' :: l, b, hs, k + 1, o, h => by
    rw [List.getElem?_cons_succ] at h
    have := stepsP_at hs.2 k o h
    rw [show b + (k + 1) = b + 1 + k by omega]
    exact this

theorem phase_go (front : List Oper) (last : Oper) (ms : List Nat) (hops : ops.toList = front ++ [last]) (ht : tidyL ops front.length = true) (hch : chainOk ops ms = true) (hmn : ms.all (fun m => decide (m < front.length)) = true) (hnd : ms.Nodup) (hp : Puts mk front)
    (hJ : ∀ q u u' w, (∀ m ∈ ms, u (slotOf ops m) = u' (slotOf ops m)) → J q u w → J q u' w)
    (hs : StepsP P ops Q mk G J ms 0 front)
    (hend : ∀ u w, J ms.length u w → Alls (fun t v _ => G t v) u w front → ∀ K : Act → World → Prop, Shut (∀ a w', Q .normal a w' → K a w') →
      if Region.wanted last (yielded ops (mk u)) = true then Oper.wp P last ⟨mk u, []⟩ w K Q else K ((⟨mk u, []⟩ : Act).put last.dst undef) w) :
    ∀ (fuel : Nat) (listed : Array Bool) (u : Nat → Value) (w : World), listed.size = ops.size → listed.toList.countP (fun b => !b) ≤ fuel →
      listed.getD front.length false = false →
      (∀ i o e, listed.getD i false = true → ops[i]? = some o → e ∈ o.after → Region.binds .any e = true → listed.getD e.on false = true) →
      (∃ q, q ≤ ms.length ∧ (∀ k (h : k < ms.length), k < q → listed.getD ms[k] false = true) ∧ (∀ k (h : k < ms.length), q ≤ k → listed.getD ms[k] false = false) ∧ J q u w) →
      (∀ i, i < front.length → listed.getD i false = true → G (slotOf ops i) (u (slotOf ops i))) → wpAny P .any ops Q fuel listed ⟨mk u, []⟩ w := by
  have hsz0 : ops.size = front.length + 1 := by
    have := congrArg List.length hops
    simpa using this
  have hmlt : ∀ k (h : k < ms.length), ms[k] < front.length := fun k h => by
    have := List.all_eq_true.1 hmn ms[k] (List.getElem_mem h)
    simpa using this
  have hfr : ∀ i, i < front.length → ∃ o, ops[i]? = some o ∧ o ∈ front := by
    intro i hi
    refine ⟨front[i], ?_, List.getElem_mem _⟩
    rw [← Array.getElem?_toList, hops, List.getElem?_append_left hi, List.getElem?_eq_getElem hi]
  have hla : ops[front.length]? = some last := by
    rw [← Array.getElem?_toList, hops]
    simp
  have hno : ∀ (listed : Array Bool), listed.size = ops.size → listed.getD front.length false = false → Region.ready .any ops listed = [] → False := by
    intro listed hsz hl hr
    have hall : ∀ i, i < ops.size → listed.getD i false = true := by
      intro i
      induction i using Nat.strongRecOn with
      | ind i ih =>
        intro hi
        cases hl : listed.getD i false with
        | true => rfl
        | false =>
          exfalso
          have : i ∈ Region.ready .any ops listed := by
            refine mem_ready.2 ⟨?_, ops[i], Array.getElem?_eq_getElem hi, fun e he _ => ?_⟩
            · have hi' : i < listed.size := by omega
              simpa [hi'] using hl
            · have := tidyL_after ht (by omega) (Array.getElem?_eq_getElem hi) he
              exact ih _ this (by omega)
          rw [hr] at this
          cases this
    rw [hall _ (by omega)] at hl
    cases hl
  intro fuel
  induction fuel with
  | zero =>
    intro listed u w hsz hn hL hC hq hF
    exfalso
    have hjs : front.length < listed.size := by omega
    have h1 : listed[front.length] = false := by simpa [hjs] using hL
    have h2 : 0 < listed.toList.countP (fun b => !b) := List.countP_pos_iff.2 ⟨false, by rw [← h1]; simp, rfl⟩
    omega
  | succ fuel ih =>
    intro listed u w hsz hn hL hC hq hF
    refine ⟨fun hr => (hno listed hsz hL hr).elim, fun i hi => ?_⟩
    obtain ⟨h0, o, ho, hall⟩ := mem_ready.1 hi
    have hio : i < ops.size := (Array.getElem?_eq_some_iff.1 ho).1
    have his : i < listed.size := by omega
    have hl0 : listed[i] = false := by simpa [his] using h0
    have hli : listed.getD i false = false := by simpa [his] using hl0
    have hcnt : (listed.setIfInBounds i true).toList.countP (fun b => !b) ≤ fuel := by
      have : (listed.setIfInBounds i true).toList = listed.toList.set i true := by simp
      rw [this, List.countP_set (by simpa using his)]
      have h2 : 0 < listed.toList.countP (fun b => !b) := List.countP_pos_iff.2 ⟨false, by rw [← hl0]; simp, rfl⟩
      have h3 : (!(listed.toList[i]'(by simpa using his))) = true := by simp [hl0]
      rw [if_pos h3]
      simp only [Bool.not_true, Bool.false_eq_true, if_false]
      omega
    have hC2 : i < front.length → ∀ j oj e, (listed.setIfInBounds i true).getD j false = true → ops[j]? = some oj → e ∈ oj.after → Region.binds .any e = true → (listed.setIfInBounds i true).getD e.on false = true := by
      intro hin j oj e hlj hoj he hb
      by_cases ej : j = i
      · subst ej
        obtain rfl : oj = o := Option.some.inj (hoj.symm.trans ho)
        have := tidyL_after ht (by omega) ho he
        rw [getD_set_ne false (by omega)]
        exact hall e he hb
      · rw [getD_set_ne false (Ne.symm ej)] at hlj
        have := hC j oj e hlj hoj he hb
        by_cases ee : e.on = i
        · rw [ee]
          simp [his]
        · rw [getD_set_ne false (Ne.symm ee)]
          exact this
    by_cases hin : i < front.length
    · obtain ⟨o', ho', hmem⟩ := hfr i hin
      obtain rfl : o' = o := Option.some.inj (ho'.symm.trans ho)
      obtain ⟨t, hd, hput⟩ := puts_at hp o' hmem
      have hslot : slotOf ops i = t := slotOf_eq ho hd
      have e1 : ∀ v, (⟨mk u, []⟩ : Act).put (some t) v = ⟨mk (upd u t v), []⟩ := fun v => by
        show Act.mk ((mk u).setIfInBounds t v) [] = _
        rw [hput]
      have hne : ∀ j, j < front.length → j ≠ i → slotOf ops j ≠ t := fun j hj e h => e (tidyL_slot ht hj hin (by rw [h, hslot]))
      obtain ⟨q, hq0, hq1, hq2, hj⟩ := hq
      have hfi : front[i]? = some o' := by
        rw [← Array.getElem?_toList, hops, List.getElem?_append_left hin] at ho
        exact ho
      have hstep := stepsP_at hs i o' hfi
      rw [Nat.zero_add] at hstep
      cases hx : ms.idxOf? i with
      | none =>
        rw [hx] at hstep
        have hnm : i ∉ ms := by simpa using hx
        refine wpOp_step ho (fun K hK => hstep q u w hj (deps_of _ fun e he hb => ?_) K ?_)
        · have he' : e ∈ o'.after := by simpa using he
          have := tidyL_after ht (by omega) ho he'
          exact hF e.on (by omega) (hall e he' hb)
        · intro v hGv
          refine hK _ _ ?_
          rw [hd] at hGv ⊢
          rw [e1]
          refine ih _ _ w (by simpa using hsz) hcnt (by rw [getD_set_ne false (by omega)]; exact hL) (hC2 hin) ⟨q, hq0, fun k h hk => ?_, fun k h hk => ?_, hJ q u _ w (fun m hm => ?_) hj⟩ (fun j hj2 hlj => ?_)
          · have hne2 : i ≠ ms[k] := fun e => hnm (e ▸ List.getElem_mem h)
            rw [getD_set_ne false hne2]
            exact hq1 k h hk
          · have hne2 : i ≠ ms[k] := fun e => hnm (e ▸ List.getElem_mem h)
            rw [getD_set_ne false hne2]
            exact hq2 k h hk
          · obtain ⟨k, hk, rfl⟩ := List.mem_iff_getElem.1 hm
            have := hne ms[k] (hmlt k hk) (fun e => hnm (e ▸ List.getElem_mem hk))
            simp [upd, this]
          · by_cases e : j = i
            · subst e
              rw [hslot]
              simpa [upd] using hGv
            · have hlj' : listed.getD j false = true := by
                rw [getD_set_ne false (Ne.symm e)] at hlj
                exact hlj
              simpa [upd, hne j hj2 e] using hF j hj2 hlj'
      | some k =>
        rw [hx] at hstep
        obtain ⟨hk, hki⟩ : ∃ h : k < ms.length, ms[k] = i := by
          have := List.idxOf?_eq_some_iff.1 hx
          obtain ⟨h1, h2, _⟩ := this
          exact ⟨h1, by simpa using h2⟩
        have hkq : k = q := by
          have h1 : q ≤ k := by
            by_cases h : k < q
            · have := hq1 k hk h
              rw [hki, hli] at this
              cases this
            · omega
          by_cases h2 : q < k
          · exfalso
            obtain ⟨d, rfl⟩ : ∃ d, k = d + 1 := ⟨k - 1, by omega⟩
            obtain ⟨o2, e2, ho2, he2, hon, hb2⟩ := chain_wait hch d hk
            rw [hki] at ho2
            obtain rfl : o2 = o' := Option.some.inj (ho2.symm.trans ho)
            have h3 := hall e2 he2 hb2
            rw [hon] at h3
            have h4 := hq2 d (by omega) (by omega)
            rw [h3] at h4
            cases h4
          · omega
        subst hkq
        refine wpOp_step ho (fun K hK => hstep u w hj (deps_of _ fun e he hb => ?_) K ?_)
        · have he' : e ∈ o'.after := by simpa using he
          have := tidyL_after ht (by omega) ho he'
          exact hF e.on (by omega) (hall e he' hb)
        · intro v w' hj2 hGv
          refine hK _ _ ?_
          rw [hd] at hGv hj2 ⊢
          rw [e1]
          have hdis : ∀ k' (h : k' < ms.length), k' ≠ k → i ≠ ms[k'] := fun k' h hne3 e => by
            rw [← hki] at e
            exact hne3 ((List.getElem_inj hnd).1 e.symm)
          refine ih _ _ w' (by simpa using hsz) hcnt (by rw [getD_set_ne false (by omega)]; exact hL) (hC2 hin) ⟨k + 1, hk, fun k' h hk' => ?_, fun k' h hk' => ?_, hj2⟩ (fun j hj3 hlj => ?_)
          · by_cases e : k' = k
            · subst e
              rw [hki]
              simp [his]
            · rw [getD_set_ne false (hdis k' h e)]
              exact hq1 k' h (by omega)
          · rw [getD_set_ne false (hdis k' h (by omega))]
            exact hq2 k' h (by omega)
          · by_cases e : j = i
            · subst e
              rw [hslot]
              simpa [upd] using hGv
            · have hlj' : listed.getD j false = true := by
                rw [getD_set_ne false (Ne.symm e)] at hlj
                exact hlj
              simpa [upd, hne j hj3 e] using hF j hj3 hlj'
    · obtain rfl : i = front.length := by omega
      obtain rfl : last = o := Option.some.inj (hla.symm.trans ho)
      have hall2 : ∀ d j, j + d + 1 = front.length → listed.getD j false = true := by
        intro d
        induction d using Nat.strongRecOn with
        | ind d ihd =>
          intro j hj
          obtain ⟨k, o, e, hjk, hkn, hok, he, heo, hb⟩ := tidyL_wait ht (show j < front.length by omega)
          by_cases hk : k = front.length
          · subst hk
            obtain rfl : o = last := Option.some.inj (hok.symm.trans ho)
            have := hall e he hb
            rwa [heo] at this
          · have h1 := ihd (front.length - k - 1) (by omega) k (by omega)
            have := hC k o e h1 hok he hb
            rwa [heo] at this
      obtain ⟨q, hq0, hq1, hq2, hj⟩ := hq
      obtain rfl : q = ms.length := by
        by_cases h : q < ms.length
        · have h1 := hq2 q h (Nat.le_refl _)
          have h2 := hmlt q h
          rw [hall2 (front.length - ms[q] - 1) ms[q] (by omega)] at h1
          cases h1
        · omega
      have hA : Alls (fun t v _ => G t v) u w front := by
        refine alls_of _ fun o hmo => ?_
        obtain ⟨j, hj2, rfl⟩ := List.mem_iff_getElem.1 hmo
        obtain ⟨t, hd, _⟩ := puts_at hp _ hmo
        have hoj : ops[j]? = some front[j] := by rw [← Array.getElem?_toList, hops, List.getElem?_append_left hj2, List.getElem?_eq_getElem hj2]
        have := hF j hj2 (hall2 (front.length - j - 1) j (by omega))
        rw [slotOf_eq hoj hd] at this
        simpa [hd] using this
      refine wpOp_step ho (fun K hK => hend u w hj hA K (fun a w' hq => hK _ _ ?_))
      have hr : Region.ready .any ops (listed.setIfInBounds front.length true) = [] := by
        cases h : Region.ready .any ops (listed.setIfInBounds front.length true) with
        | nil => rfl
        | cons j l =>
          exfalso
          have hj : j ∈ Region.ready .any ops (listed.setIfInBounds front.length true) := by rw [h]; exact List.mem_cons_self
          obtain ⟨h0, o, ho, _⟩ := mem_ready.1 hj
          have hjs : j < ops.size := (Array.getElem?_eq_some_iff.1 ho).1
          by_cases e : j = front.length
          · subst e
            simp [his] at h0
          · have := hall2 (front.length - j - 1) j (by omega)
            have h1 : (listed.setIfInBounds front.length true).getD j false = true := by rw [getD_set_ne false (Ne.symm e)]; exact this
            have hj2 : j < (listed.setIfInBounds front.length true).size := by simp; omega
            rw [Array.getD_eq_getD_getElem?, Array.getElem?_eq_getElem hj2] at h1
            simp only [Option.getD_some] at h1
            rw [Array.getD_eq_getD_getElem?, Array.getElem?_eq_getElem hj2] at h0
            simp only [Option.getD_some] at h0
            rw [h1] at h0
            cases h0
      cases fuel with
      | zero => exact ⟨hr, hq⟩
      | succ f => exact ⟨fun _ => hq, fun i hi => by rw [hr] at hi; cases hi⟩

/-- THE LAW: a region that draws its order, some of whose operations turn memory, each behind the one before; the last operation is the prover's. -/
theorem wp_region_phase {id : Nat} {a : Act} {w0 : World} (mk : (Nat → Value) → Array Value) (G : Nat → Value → Prop) (J : Nat → (Nat → Value) → World → Prop) (ms : List Nat) (u0 : Nat → Value) (ha : a = ⟨mk u0, []⟩) (hm : P.follows .mixedOrders = true)
    (n : Nat) (last : Oper) (hn : ops.size = n + 1) (hl : ops[n]? = some last) (ht : tidyL ops n = true) (hch : chainOk ops ms = true) (hmn : ms.all (fun m => decide (m < n)) = true) (hnd : ms.Nodup) (hp : Puts mk (ops.toList.take n))
    (hJ : ∀ q u u' w, (∀ m ∈ ms, u (slotOf ops m) = u' (slotOf ops m)) → J q u w → J q u' w) (hJ0 : J 0 u0 w0.drew)
    (hs : StepsP P ops Q mk G J ms 0 (ops.toList.take n))
    (hend : ∀ u w, J ms.length u w → Alls (fun t v _ => G t v) u w (ops.toList.take n) → ∀ K : Act → World → Prop, Shut (∀ a w', Q .normal a w' → K a w') →
      if Region.wanted last (yielded ops (mk u)) = true then Oper.wp P last ⟨mk u, []⟩ w K Q else K ((⟨mk u, []⟩ : Act).put last.dst undef) w) : (Code.region id ops true).wp P Q a w0 := by
  subst ha
  have hlen : (ops.toList.take n).length = n := by simp; omega
  have hops : ops.toList = ops.toList.take n ++ [last] := by
    have h1 : ops.toList[n]? = some last := by simpa using hl
    obtain ⟨h2, h3⟩ := List.getElem?_eq_some_iff.1 h1
    have h4 := List.take_succ_eq_append_getElem h2
    rw [h3] at h4
    rw [← h4, List.take_of_length_le (by simp; omega)]
  refine wp_region_any hm (phase_go (ops.toList.take n) last ms hops (by rw [hlen]; exact ht) hch (by rw [hlen]; exact hmn) hnd hp hJ hs hend _ _ u0 _ (by simp) ?_ (rep_getD _ _) ?_ ⟨0, Nat.zero_le _, fun k _ hk => by omega, fun k _ _ => rep_getD _ _, hJ0⟩ ?_)
  · have := List.countP_le_length (p := fun b => !b) (l := (Array.replicate ops.size false).toList)
    simpa using this
  · intro i o e h
    rw [rep_getD] at h
    cases h
  · intro i hi h
    rw [rep_getD] at h
    cases h
end
end Go.Proofs.YtikokgngkagieaaDoor
