/- A region that draws its order, whose frame may hold deferred calls; some of its operations (calls, stores, appends), each behind the one before, turn memory: a state goes on with each of them ('J'); all others only read, and a reading that such an operation waits for comes ahead of it; of no statement by itself. -/
import Derived.Test.YtikokgngkagieaaDoorLastP
namespace Go.Proofs.YtikokgngkagieaaDoor
open Go.RowKit

section
variable {P : Program} {ops : Array Oper} {Q : Exit → Act → World → Prop} {G : Nat → Value → Prop} {J : Nat → (Nat → Value) → World → Prop} {mk : (Nat → Value) → Array Value} {df : List Deferred} {lim : Nat → Nat}

/-- Writing an operation's slot, if it has one, is telling it anew. -/
def PutsQ (mk : (Nat → Value) → Array Value) (df : List Deferred) : List Oper → Prop
  | [] => True
  | o :: rest => (∀ u v, (⟨mk u, df⟩ : Act).put o.dst v = ⟨mk (upd u (o.dst.getD 0) v), df⟩) ∧ PutsQ mk df rest
theorem putsQ_at : ∀ {l : List Oper}, PutsQ mk df l → ∀ o ∈ l, ∀ u v, (⟨mk u, df⟩ : Act).put o.dst v = ⟨mk (upd u (o.dst.getD 0) v), df⟩
  | [], _, o, ho => by cases ho
  | o' :: l, h, o, ho => by
    rcases List.mem_cons.1 ho with e | e
    · subst e; exact h.1
    · exact putsQ_at h.2 o e
/-- Does operation m wait, over others, for operation i? -/
def reach (ops : Array Oper) : Nat → Nat → Nat → Bool
  | 0, _, _ => false
  | f + 1, m, i => ((ops[m]?).map fun o => o.after.toList.any fun e => Region.binds .any e && (e.on == i || reach ops f e.on i)).getD false
theorem reach_listed {listed : Array Bool} (hC : ∀ i o e, listed.getD i false = true → ops[i]? = some o → e ∈ o.after → Region.binds .any e = true → listed.getD e.on false = true) : ∀ (f m i : Nat), reach ops f m i = true → listed.getD m false = true → listed.getD i false = true
  | 0, m, i, h, _ => by simp [reach] at h
  | f + 1, m, i, h, hm => by
    unfold reach at h
    cases ho : ops[m]? with
    | none => simp [ho] at h
    | some o =>
      simp only [ho, Option.map_some, Option.getD_some] at h
      obtain ⟨e, he, h2⟩ := List.any_eq_true.1 h
      simp only [Bool.and_eq_true, Bool.or_eq_true, beq_iff_eq] at h2
      have hl := hC m o e hm ho (by simpa using he) h2.1
      rcases h2.2 with h3 | h3
      · rw [← h3]; exact hl
      · exact reach_listed hC f e.on i h3 hl
/-- lim: from which of ms on each operation is waited for. -/
def limOk (ops : Array Oper) (ms : List Nat) (lim : Nat → Nat) (n : Nat) : Bool := (List.range n).all fun i => (ms[lim i]?).all fun m => reach ops ops.size m i

/-- An operation that only reads: in every state it gives its slot a value with its own fact. -/
def StepRQ (P : Program) (ops : Array Oper) (Q : Exit → Act → World → Prop) (mk : (Nat → Value) → Array Value) (df : List Deferred) (G : Nat → Value → Prop) (J : Nat → (Nat → Value) → World → Prop) (lm : Nat) (o : Oper) : Prop :=
  ∀ (q : Nat) (_ : q ≤ lm) (u : Nat → Value) (w : World), J q u w → Deps ops (fun t v _ => G t v) u w o.after.toList →
      ∀ K : Act → World → Prop, Shut (∀ v, G (o.dst.getD 0) v → K ((⟨mk u, df⟩ : Act).put o.dst v) w) →
      if Region.wanted o (yielded ops (mk u)) = true then Oper.wp P o ⟨mk u, df⟩ w K Q else K ((⟨mk u, df⟩ : Act).put o.dst undef) w
/-- An operation that turns memory: from the state q to the next. -/
def StepWQ (P : Program) (ops : Array Oper) (Q : Exit → Act → World → Prop) (mk : (Nat → Value) → Array Value) (df : List Deferred) (G : Nat → Value → Prop) (J : Nat → (Nat → Value) → World → Prop) (q : Nat) (o : Oper) : Prop :=
  ∀ (u : Nat → Value) (w : World), J q u w → Deps ops (fun t v _ => G t v) u w o.after.toList →
      ∀ K : Act → World → Prop, Shut (∀ v w', J (q + 1) (upd u (o.dst.getD 0) v) w' → G (o.dst.getD 0) v → K ((⟨mk u, df⟩ : Act).put o.dst v) w') →
      if Region.wanted o (yielded ops (mk u)) = true then Oper.wp P o ⟨mk u, df⟩ w K Q else K ((⟨mk u, df⟩ : Act).put o.dst undef) w
/-- The operations from number i on, those of ms turning memory. -/
def StepsQ (P : Program) (ops : Array Oper) (Q : Exit → Act → World → Prop) (mk : (Nat → Value) → Array Value) (df : List Deferred) (G : Nat → Value → Prop) (J : Nat → (Nat → Value) → World → Prop) (ms : List Nat) (lim : Nat → Nat) : Nat → List Oper → Prop
  | _, [] => True
  | i, o :: r => (match ms.idxOf? i with | none => StepRQ P ops Q mk df G J (lim i) o | some q => StepWQ P ops Q mk df G J q o) ∧ StepsQ P ops Q mk df G J ms lim (i + 1) r

theorem stepsQ_at {ms : List Nat} : ∀ {l : List Oper} {b : Nat}, StepsQ P ops Q mk df G J ms lim b l → ∀ k o, l[k]? = some o → (match ms.idxOf? (b + k) with | none => StepRQ P ops Q mk df G J (lim (b + k)) o | some q => StepWQ P ops Q mk df G J q o)
  | [], _, _, k, o, h => by simp at h
  | o' :: l, b, hs, 0, o, h => by
    simp only [List.getElem?_cons_zero, Option.some.injEq] at h
    subst h
    exact hs.1
  | o' :: l, b, hs, k + 1, o, h => by
    rw [List.getElem?_cons_succ] at h
    have := stepsQ_at hs.2 k o h
    rw [show b + (k + 1) = b + 1 + k by omega]
    exact this

theorem phaseQ_go (front : List Oper) (last : Oper) (ms : List Nat) (hops : ops.toList = front ++ [last]) (ht : tidyL ops front.length = true) (hch : chainOk ops ms = true) (hmn : ms.all (fun m => decide (m < front.length)) = true) (hnd : ms.Nodup) (hp : PutsQ mk df front)
    (hJ : ∀ q u u' w, (∀ m ∈ ms, u (slotOf ops m) = u' (slotOf ops m)) → J q u w → J q u' w)
    (hlim : limOk ops ms lim front.length = true) (hs : StepsQ P ops Q mk df G J ms lim 0 front)
    (hend : ∀ u w, J ms.length u w → Alls (fun t v _ => G t v) u w front → ∀ K : Act → World → Prop, Shut (∀ a w', Q .normal a w' → K a w') →
      if Region.wanted last (yielded ops (mk u)) = true then Oper.wp P last ⟨mk u, df⟩ w K Q else K ((⟨mk u, df⟩ : Act).put last.dst undef) w) :
    ∀ (fuel : Nat) (listed : Array Bool) (u : Nat → Value) (w : World), listed.size = ops.size → listed.toList.countP (fun b => !b) ≤ fuel →
      listed.getD front.length false = false →
      (∀ i o e, listed.getD i false = true → ops[i]? = some o → e ∈ o.after → Region.binds .any e = true → listed.getD e.on false = true) →
      (∃ q, q ≤ ms.length ∧ (∀ k (h : k < ms.length), k < q → listed.getD ms[k] false = true) ∧ (∀ k (h : k < ms.length), q ≤ k → listed.getD ms[k] false = false) ∧ J q u w) →
      (∀ i, i < front.length → listed.getD i false = true → G (slotOf ops i) (u (slotOf ops i))) → wpAny P .any ops Q fuel listed ⟨mk u, df⟩ w := by
  have hsz0 : ops.size = front.length + 1 := by
    have := congrArg List.length hops
    simpa using this
  have hmlt : ∀ k (h : k < ms.length), ms[k] < front.length := fun k h => by
    have := List.all_eq_true.1 hmn ms[k] (List.getElem_mem h)
    simpa using this
  have hfr : ∀ i, i < front.length → ∃ o, ops[i]? = some o ∧ o ∈ front := by
    intro i hi
    refine ⟨front[i], ?_, List.getElem_mem _⟩
    rw [← Array.getElem?_toList, hops, List.getElem?_append_left hi, List.getElem?_eq_getElem hi]
  have hla : ops[front.length]? = some last := by
    rw [← Array.getElem?_toList, hops]
    simp
  have hno : ∀ (listed : Array Bool), listed.size = ops.size → listed.getD front.length false = false → Region.ready .any ops listed = [] → False := by
    intro listed hsz hl hr
    have hall : ∀ i, i < ops.size → listed.getD i false = true := by
      intro i
      induction i using Nat.strongRecOn with
      | ind i ih =>
        intro hi
        cases hl : listed.getD i false with
        | true => rfl
        | false =>
          exfalso
          have : i ∈ Region.ready .any ops listed := by
            refine mem_ready.2 ⟨?_, ops[i], Array.getElem?_eq_getElem hi, fun e he _ => ?_⟩
            · have hi' : i < listed.size := by omega
              simpa [hi'] using hl
            · have := tidyL_after ht (by omega) (Array.getElem?_eq_getElem hi) he
              exact ih _ this (by omega)
          rw [hr] at this
          cases this
    rw [hall _ (by omega)] at hl
    cases hl
  intro fuel
  induction fuel with
  | zero =>
    intro listed u w hsz hn hL hC hq hF
    exfalso
    have hjs : front.length < listed.size := by omega
    have h1 : listed[front.length] = false := by simpa [hjs] using hL
    have h2 : 0 < listed.toList.countP (fun b => !b) := List.countP_pos_iff.2 ⟨false, by rw [← h1]; simp, rfl⟩
    omega
  | succ fuel ih =>
    intro listed u w hsz hn hL hC hq hF
    refine ⟨fun hr => (hno listed hsz hL hr).elim, fun i hi => ?_⟩
    obtain ⟨h0, o, ho, hall⟩ := mem_ready.1 hi
    have hio : i < ops.size := (Array.getElem?_eq_some_iff.1 ho).1
    have his : i < listed.size := by omega
    have hl0 : listed[i] = false := by simpa [his] using h0
    have hli : listed.getD i false = false := by simpa [his] using hl0
    have hcnt : (listed.setIfInBounds i true).toList.countP (fun b => !b) ≤ fuel := by
      have : (listed.setIfInBounds i true).toList = listed.toList.set i true := by simp
      rw [this, List.countP_set (by simpa using his)]
      have h2 : 0 < listed.toList.countP (fun b => !b) := List.countP_pos_iff.2 ⟨false, by rw [← hl0]; simp, rfl⟩
      have h3 : (!(listed.toList[i]'(by simpa using his))) = true := by simp [hl0]
      rw [if_pos h3]
      simp only [Bool.not_true, Bool.false_eq_true, if_false]
      omega
    have hC2 : i < front.length → ∀ j oj e, (listed.setIfInBounds i true).getD j false = true → ops[j]? = some oj → e ∈ oj.after → Region.binds .any e = true → (listed.setIfInBounds i true).getD e.on false = true := by
      intro hin j oj e hlj hoj he hb
      by_cases ej : j = i
      · subst ej
        obtain rfl : oj = o := Option.some.inj (hoj.symm.trans ho)
        have := tidyL_after ht (by omega) ho he
        rw [getD_set_ne false (by omega)]
        exact hall e he hb
      · rw [getD_set_ne false (Ne.symm ej)] at hlj
        have := hC j oj e hlj hoj he hb
        by_cases ee : e.on = i
        · rw [ee]
          simp [his]
        · rw [getD_set_ne false (Ne.symm ee)]
          exact this
    by_cases hin : i < front.length
    · obtain ⟨o', ho', hmem⟩ := hfr i hin
      obtain rfl : o' = o := Option.some.inj (ho'.symm.trans ho)
      have e1' := putsQ_at hp o' hmem u
      obtain ⟨t, hd⟩ : ∃ t, o'.dst.getD 0 = t := ⟨_, rfl⟩
      have e1 : ∀ v, (⟨mk u, df⟩ : Act).put o'.dst v = ⟨mk (upd u t v), df⟩ := fun v => by rw [← hd]; exact e1' v
      have hslot : slotOf ops i = t := by rw [← hd]; simp [slotOf, ho]
      have hne : ∀ j, j < front.length → j ≠ i → slotOf ops j ≠ t := fun j hj e h => e (tidyL_slot ht hj hin (by rw [h, hslot]))
      obtain ⟨q, hq0, hq1, hq2, hj⟩ := hq
      have hfi : front[i]? = some o' := by
        rw [← Array.getElem?_toList, hops, List.getElem?_append_left hin] at ho
        exact ho
      have hstep := stepsQ_at hs i o' hfi
      rw [Nat.zero_add] at hstep
      cases hx : ms.idxOf? i with
      | none =>
        rw [hx] at hstep
        have hnm : i ∉ ms := by simpa using hx
        have hqi : q ≤ lim i := by
          by_cases hc : q ≤ lim i
          · exact hc
          · exfalso
            have hlt : lim i < ms.length := by omega
            have h1 := List.all_eq_true.1 hlim i (List.mem_range.2 hin)
            rw [List.getElem?_eq_getElem hlt] at h1
            have h2 := reach_listed hC _ _ _ (by simpa using h1) (hq1 (lim i) hlt (by omega))
            rw [hli] at h2
            cases h2
        refine wpOp_step ho (fun K hK => hstep q hqi u w hj (deps_of _ fun e he hb => ?_) K ?_)
        · have he' : e ∈ o'.after := by simpa using he
          have := tidyL_after ht (by omega) ho he'
          exact hF e.on (by omega) (hall e he' hb)
        · intro v hGv
          refine hK _ _ ?_
          rw [hd] at hGv
          rw [e1]
          refine ih _ _ w (by simpa using hsz) hcnt (by rw [getD_set_ne false (by omega)]; exact hL) (hC2 hin) ⟨q, hq0, fun k h hk => ?_, fun k h hk => ?_, hJ q u _ w (fun m hm => ?_) hj⟩ (fun j hj2 hlj => ?_)
          · have hne2 : i ≠ ms[k] := fun e => hnm (e ▸ List.getElem_mem h)
            rw [getD_set_ne false hne2]
            exact hq1 k h hk
          · have hne2 : i ≠ ms[k] := fun e => hnm (e ▸ List.getElem_mem h)
            rw [getD_set_ne false hne2]
            exact hq2 k h hk
          · obtain ⟨k, hk, rfl⟩ := List.mem_iff_getElem.1 hm
            have := hne ms[k] (hmlt k hk) (fun e => hnm (e ▸ List.getElem_mem hk))
            simp [upd, this]
          · by_cases e : j = i
            · subst e
              rw [hslot]
              simpa [upd] using hGv
            · have hlj' : listed.getD j false = true := by
                rw [getD_set_ne false (Ne.symm e)] at hlj
                exact hlj
              simpa [upd, hne j hj2 e] using hF j hj2 hlj'
      | some k =>
        rw [hx] at hstep
        obtain ⟨hk, hki⟩ : ∃ h : k < ms.length, ms[k] = i := by
          have := List.idxOf?_eq_some_iff.1 hx
          obtain ⟨h1, h2, _⟩ := this
          exact ⟨h1, by simpa using h2⟩
        have hkq : k = q := by
          have h1 : q ≤ k := by
            by_cases h : k < q
            · have := hq1 k hk h
              rw [hki, hli] at this
              cases this
            · omega
          by_cases h2 : q < k
          · exfalso
            obtain ⟨d, rfl⟩ : ∃ d, k = d + 1 := ⟨k - 1, by omega⟩
            obtain ⟨o2, e2, ho2, he2, hon, hb2⟩ := chain_wait hch d hk
            rw [hki] at ho2
            obtain rfl : o2 = o' := Option.some.inj (ho2.symm.trans ho)
            have h3 := hall e2 he2 hb2
            rw [hon] at h3
            have h4 := hq2 d (by omega) (by omega)
            rw [h3] at h4
            cases h4
          · omega
        subst hkq
        refine wpOp_step ho (fun K hK => hstep u w hj (deps_of _ fun e he hb => ?_) K ?_)
        · have he' : e ∈ o'.after := by simpa using he
          have := tidyL_after ht (by omega) ho he'
          exact hF e.on (by omega) (hall e he' hb)
        · intro v w' hj2 hGv
          refine hK _ _ ?_
          rw [hd] at hGv hj2
          rw [e1]
          have hdis : ∀ k' (h : k' < ms.length), k' ≠ k → i ≠ ms[k'] := fun k' h hne3 e => by
            rw [← hki] at e
            exact hne3 ((List.getElem_inj hnd).1 e.symm)
          refine ih _ _ w' (by simpa using hsz) hcnt (by rw [getD_set_ne false (by omega)]; exact hL) (hC2 hin) ⟨k + 1, hk, fun k' h hk' => ?_, fun k' h hk' => ?_, hj2⟩ (fun j hj3 hlj => ?_)
          · by_cases e : k' = k
            · subst e
              rw [hki]
              simp [his]
            · rw [getD_set_ne false (hdis k' h e)]
              exact hq1 k' h (by omega)
          · rw [getD_set_ne false (hdis k' h (by omega))]
            exact hq2 k' h (by omega)
          · by_cases e : j = i
            · subst e
              rw [hslot]
              simpa [upd] using hGv
            · have hlj' : listed.getD j false = true := by
                rw [getD_set_ne false (Ne.symm e)] at hlj
                exact hlj
              simpa [upd, hne j hj3 e] using hF j hj3 hlj'
    · obtain rfl : i = front.length := by omega
      obtain rfl : last = o := Option.some.inj (hla.symm.trans ho)
      have hall2 : ∀ d j, j + d + 1 = front.length → listed.getD j false = true := by
        intro d
        induction d using Nat.strongRecOn with
        | ind d ihd =>
          intro j hj
          obtain ⟨k, o, e, hjk, hkn, hok, he, heo, hb⟩ := tidyL_wait ht (show j < front.length by omega)
          by_cases hk : k = front.length
          · subst hk
            obtain rfl : o = last := Option.some.inj (hok.symm.trans ho)
            have := hall e he hb
            rwa [heo] at this
          · have h1 := ihd (front.length - k - 1) (by omega) k (by omega)
            have := hC k o e h1 hok he hb
            rwa [heo] at this
      obtain ⟨q, hq0, hq1, hq2, hj⟩ := hq
      obtain rfl : q = ms.length := by
        by_cases h : q < ms.length
        · have h1 := hq2 q h (Nat.le_refl _)
          have h2 := hmlt q h
          rw [hall2 (front.length - ms[q] - 1) ms[q] (by omega)] at h1
          cases h1
        · omega
      have hA : Alls (fun t v _ => G t v) u w front := by
        refine alls_of _ fun o hmo => ?_
        obtain ⟨j, hj2, rfl⟩ := List.mem_iff_getElem.1 hmo
        have hoj : ops[j]? = some front[j] := by rw [← Array.getElem?_toList, hops, List.getElem?_append_left hj2, List.getElem?_eq_getElem hj2]
        have := hF j hj2 (hall2 (front.length - j - 1) j (by omega))
        have es : slotOf ops j = (front[j]).dst.getD 0 := by simp [slotOf, hoj]
        rw [es] at this
        exact this
      refine wpOp_step ho (fun K hK => hend u w hj hA K (fun a w' hq => hK _ _ ?_))
      have hr : Region.ready .any ops (listed.setIfInBounds front.length true) = [] := by
        cases h : Region.ready .any ops (listed.setIfInBounds front.length true) with
        | nil => rfl
        | cons j l =>
          exfalso
          have hj : j ∈ Region.ready .any ops (listed.setIfInBounds front.length true) := by rw [h]; exact List.mem_cons_self
          obtain ⟨h0, o, ho, _⟩ := mem_ready.1 hj
          have hjs : j < ops.size := (Array.getElem?_eq_some_iff.1 ho).1
          by_cases e : j = front.length
          · subst e
            simp [his] at h0
          · have := hall2 (front.length - j - 1) j (by omega)
            have h1 : (listed.setIfInBounds front.length true).getD j false = true := by rw [getD_set_ne false (Ne.symm e)]; exact this
            have hj2 : j < (listed.setIfInBounds front.length true).size := by simp; omega
            rw [Array.getD_eq_getD_getElem?, Array.getElem?_eq_getElem hj2] at h1
            simp only [Option.getD_some] at h1
            rw [Array.getD_eq_getD_getElem?, Array.getElem?_eq_getElem hj2] at h0
            simp only [Option.getD_some] at h0
            rw [h1] at h0
            cases h0
      cases fuel with
      | zero => exact ⟨hr, hq⟩
      | succ f => exact ⟨fun _ => hq, fun i hi => by rw [hr] at hi; cases hi⟩

/-- THE LAW: a region that draws its order, some of whose operations turn memory, each behind the one before; the last operation is the prover's. -/
theorem wp_region_phaseQ {id : Nat} {a : Act} {w0 : World} (mk : (Nat → Value) → Array Value) (G : Nat → Value → Prop) (J : Nat → (Nat → Value) → World → Prop) (ms : List Nat) (lim : Nat → Nat) (df : List Deferred) (u0 : Nat → Value) (ha : a = ⟨mk u0, df⟩) (hm : P.follows .mixedOrders = true)
    (n : Nat) (last : Oper) (hn : ops.size = n + 1) (hl : ops[n]? = some last) (ht : tidyL ops n = true) (hch : chainOk ops ms = true) (hmn : ms.all (fun m => decide (m < n)) = true) (hnd : ms.Nodup) (hp : PutsQ mk df (ops.toList.take n))
    (hJ : ∀ q u u' w, (∀ m ∈ ms, u (slotOf ops m) = u' (slotOf ops m)) → J q u w → J q u' w) (hJ0 : J 0 u0 w0.drew)
    (hlim : limOk ops ms lim n = true) (hs : StepsQ P ops Q mk df G J ms lim 0 (ops.toList.take n))
    (hend : ∀ u w, J ms.length u w → Alls (fun t v _ => G t v) u w (ops.toList.take n) → ∀ K : Act → World → Prop, Shut (∀ a w', Q .normal a w' → K a w') →
      if Region.wanted last (yielded ops (mk u)) = true then Oper.wp P last ⟨mk u, df⟩ w K Q else K ((⟨mk u, df⟩ : Act).put last.dst undef) w) : (Code.region id ops true).wp P Q a w0 := by
  subst ha
  have hlen : (ops.toList.take n).length = n := by simp; omega
  have hops : ops.toList = ops.toList.take n ++ [last] := by
    have h1 : ops.toList[n]? = some last := by simpa using hl
    obtain ⟨h2, h3⟩ := List.getElem?_eq_some_iff.1 h1
    have h4 := List.take_succ_eq_append_getElem h2
    rw [h3] at h4
    rw [← h4, List.take_of_length_le (by simp; omega)]
  refine wp_region_any hm (phaseQ_go (ops.toList.take n) last ms hops (by rw [hlen]; exact ht) hch (by rw [hlen]; exact hmn) hnd hp hJ (by rw [hlen]; exact hlim) hs hend _ _ u0 _ (by simp) ?_ (rep_getD _ _) ?_ ⟨0, Nat.zero_le _, fun k _ hk => by omega, fun k _ _ => rep_getD _ _, hJ0⟩ ?_)
  · have := List.countP_le_length (p := fun b => !b) (l := (Array.replicate ops.size false).toList)
    simpa using this
  · intro i o e h
    rw [rep_getD] at h
    cases h
  · intro i hi h
    rw [rep_getD] at h
    cases h
end
end Go.Proofs.YtikokgngkagieaaDoor
