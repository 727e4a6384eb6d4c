/- A region that draws its order, gone through once an operation, whatever the order: each operation's slot has its own fact, which memory that is only added to does not take away; of no statement by itself. -/
import Derived.Test.YtikokgngkagieaaDoorBase
import Derived.Deep.RegionHeld3
namespace Go.Proofs.YtikokgngkagieaaDoor
open Go.RowKit

/-- One slot told anew. -/
def upd (u : Nat → Value) (t : Nat) (v : Value) : Nat → Value := fun s => if s = t then v else u s

section
variable {P : Program} {ops : Array Oper} {Q : Exit → Act → World → Prop} {F : Nat → Value → World → Prop} {mk : (Nat → Value) → Array Value}

/-- The slot that operation number i writes. -/
def slotOf (ops : Array Oper) (i : Nat) : Nat := ((ops[i]?).bind (·.dst)).getD 0

/-- What an operation waited for has its fact. -/
def Deps (ops : Array Oper) (F : Nat → Value → World → Prop) (u : Nat → Value) (w : World) : List Edge → Prop
  | [] => True
  | e :: es => (Region.binds .any e = true → F (slotOf ops e.on) (u (slotOf ops e.on)) w) ∧ Deps ops F u w es

theorem deps_of {u : Nat → Value} {w : World} : ∀ (es : List Edge), (∀ e ∈ es, Region.binds .any e = true → F (slotOf ops e.on) (u (slotOf ops e.on)) w) → Deps ops F u w es
  | [], _ => trivial
  | e :: es, h => ⟨h e List.mem_cons_self, deps_of es fun x hx => h x (List.mem_cons_of_mem _ hx)⟩

/-- Each operation, from any state in which what it waited for has its fact, gives its slot a value with its own fact, and memory is only added to. -/
def Steps (P : Program) (ops : Array Oper) (Q : Exit → Act → World → Prop) (mk : (Nat → Value) → Array Value) (F : Nat → Value → World → Prop) (w0 : World) : List Oper → Prop
  | [] => True
  | o :: rest => (∀ (u : Nat → Value) (w : World), Chg (fun _ => False) w0 w → Deps ops F u w o.after.toList →
      ∀ K : Act → World → Prop, Shut (∀ v w', Chg (fun _ => False) w w' → F (o.dst.getD 0) v w' → K ((⟨mk u, []⟩ : Act).put o.dst v) w') →
      if Region.wanted o (yielded ops (mk u)) = true then Oper.wp P o ⟨mk u, []⟩ w K Q else K ((⟨mk u, []⟩ : Act).put o.dst undef) w) ∧ Steps P ops Q mk F w0 rest

/-- Writing an operation's slot is telling it anew. -/
def Puts (mk : (Nat → Value) → Array Value) : List Oper → Prop
  | [] => True
  | o :: rest => (∃ t, o.dst = some t ∧ ∀ u v, (mk u).setIfInBounds t v = mk (upd u t v)) ∧ Puts mk rest

/-- All slots have their facts. -/
def Alls (F : Nat → Value → World → Prop) (u : Nat → Value) (w : World) : List Oper → Prop
  | [] => True
  | o :: rest => F (o.dst.getD 0) (u (o.dst.getD 0)) w ∧ Alls F u w rest

theorem alls_of {u : Nat → Value} {w : World} : ∀ (l : List Oper), (∀ o ∈ l, F (o.dst.getD 0) (u (o.dst.getD 0)) w) → Alls F u w l
  | [], _ => trivial
  | o :: l, h => ⟨h o List.mem_cons_self, alls_of l fun x hx => h x (List.mem_cons_of_mem _ hx)⟩

theorem steps_at {w0 : World} : ∀ {l : List Oper}, Steps P ops Q mk F w0 l → ∀ o ∈ l, ∀ (u : Nat → Value) (w : World), Chg (fun _ => False) w0 w → Deps ops F u w o.after.toList →
      ∀ K : Act → World → Prop, Shut (∀ v w', Chg (fun _ => False) w w' → F (o.dst.getD 0) v w' → K ((⟨mk u, []⟩ : Act).put o.dst v) w') →
      if Region.wanted o (yielded ops (mk u)) = true then Oper.wp P o ⟨mk u, []⟩ w K Q else K ((⟨mk u, []⟩ : Act).put o.dst undef) w
  | [], _, o, ho => by cases ho
  | o' :: l, h, o, ho => by
    rcases List.mem_cons.1 ho with e | e
    · subst e; exact h.1
    · exact steps_at h.2 o e

theorem puts_at : ∀ {l : List Oper}, Puts mk l → ∀ o ∈ l, ∃ t, o.dst = some t ∧ ∀ u v, (mk u).setIfInBounds t v = mk (upd u t v)
  | [], _, o, ho => by cases ho
  | o' :: l, h, o, ho => by
    rcases List.mem_cons.1 ho with e | e
    · subst e; exact h.1
    · exact puts_at h.2 o e

/-- The operations' slots are distinct, and none waits for a later one. -/
def tidy (ops : Array Oper) : Bool :=
  (List.range ops.size).all fun i => (List.range ops.size).all (fun j => i == j || slotOf ops i != slotOf ops j) && ((ops[i]?).map fun o => o.after.toList.all fun e => decide (e.on < i)).getD true

theorem tidy_slot (h : tidy ops = true) {i j : Nat} (hi : i < ops.size) (hj : j < ops.size) (e : slotOf ops i = slotOf ops j) : i = j := by
  have h1 := List.all_eq_true.1 h i (List.mem_range.2 hi)
  simp only [Bool.and_eq_true] at h1
  have h2 := List.all_eq_true.1 h1.1 j (List.mem_range.2 hj)
  simpa [e] using h2

theorem tidy_after (h : tidy ops = true) {i : Nat} {o : Oper} (ho : ops[i]? = some o) {e : Edge} (he : e ∈ o.after) : e.on < i := by
  have hi : i < ops.size := (Array.getElem?_eq_some_iff.1 ho).1
  have h1 := List.all_eq_true.1 h i (List.mem_range.2 hi)
  simp only [Bool.and_eq_true, ho, Option.map_some, Option.getD_some] at h1
  have h2 := List.all_eq_true.1 h1.2 e (by simpa using he)
  simpa using h2

theorem slotOf_eq {i t : Nat} {o : Oper} (ho : ops[i]? = some o) (hd : o.dst = some t) : slotOf ops i = t := by simp [slotOf, ho, hd]

theorem free_go (w0 : World) (ht : tidy ops = true) (hp : Puts mk ops.toList) (hst : ∀ t v w w', Chg (fun _ => False) w w' → F t v w → F t v w')
    (hs : Steps P ops Q mk F w0 ops.toList) (hend : ∀ u w, Chg (fun _ => False) w0 w → Alls F u w ops.toList → Q .normal ⟨mk u, []⟩ w) :
    ∀ (fuel : Nat) (listed : Array Bool) (u : Nat → Value) (w : World), listed.size = ops.size → listed.toList.countP (fun b => !b) ≤ fuel → Chg (fun _ => False) w0 w →
      (∀ i, i < ops.size → listed.getD i false = true → F (slotOf ops i) (u (slotOf ops i)) w) → wpAny P .any ops Q fuel listed ⟨mk u, []⟩ w := by
  have hfin : ∀ (listed : Array Bool) (u : Nat → Value) (w : World), listed.size = ops.size → Chg (fun _ => False) w0 w →
      (∀ i, i < ops.size → listed.getD i false = true → F (slotOf ops i) (u (slotOf ops i)) w) → Region.ready .any ops listed = [] → Q .normal ⟨mk u, []⟩ w := by
    intro listed u w hsz hc hF hr
    have hall : ∀ i, i < ops.size → listed.getD i false = true := by
      intro i
      induction i using Nat.strongRecOn with
      | ind i ih =>
        intro hi
        cases hl : listed.getD i false with
        | true => rfl
        | false =>
          exfalso
          have : i ∈ Region.ready .any ops listed := by
            refine mem_ready.2 ⟨?_, ops[i], Array.getElem?_eq_getElem hi, fun e he _ => ?_⟩
            · have hi' : i < listed.size := by omega
              simpa [hi'] using hl
            · have := tidy_after ht (Array.getElem?_eq_getElem hi) he
              exact ih _ this (by omega)
          rw [hr] at this
          cases this
    refine hend u w hc (alls_of _ fun o ho => ?_)
    obtain ⟨i, hi, he⟩ := List.mem_iff_getElem.1 ho
    have hi' : i < ops.size := by simpa using hi
    obtain ⟨t, hd, _⟩ := puts_at hp o ho
    have hoi : ops[i]? = some o := by rw [Array.getElem?_eq_getElem hi', ← he]; simp
    have := hF i hi' (hall i hi')
    rw [slotOf_eq hoi hd] at this
    simpa [hd] using this
  intro fuel
  induction fuel with
  | zero =>
    intro listed u w hsz hn hc hF
    have hr : Region.ready .any ops listed = [] := by
      cases h : Region.ready .any ops listed with
      | nil => rfl
      | cons j l =>
        exfalso
        have hj : j ∈ Region.ready .any ops listed := by rw [h]; exact List.mem_cons_self
        obtain ⟨h0, o, ho, _⟩ := mem_ready.1 hj
        have hjs : j < listed.size := by have := (Array.getElem?_eq_some_iff.1 ho).1; omega
        have h1 : listed[j] = false := by simpa [hjs] using h0
        have h2 : 0 < listed.toList.countP (fun b => !b) := List.countP_pos_iff.2 ⟨false, by rw [← h1]; simp, rfl⟩
        omega
    exact ⟨hr, hfin listed u w hsz hc hF hr⟩
  | succ fuel ih =>
    intro listed u w hsz hn hc hF
    refine ⟨hfin listed u w hsz hc hF, fun i hi => ?_⟩
    obtain ⟨h0, o, ho, hall⟩ := mem_ready.1 hi
    have hio : i < ops.size := (Array.getElem?_eq_some_iff.1 ho).1
    have his : i < listed.size := by omega
    have hl0 : listed[i] = false := by simpa [his] using h0
    have hmem : o ∈ ops.toList := by
      have := (Array.getElem?_eq_some_iff.1 ho).2
      rw [← this]
      simp
    obtain ⟨t, hd, hput⟩ := puts_at hp o hmem
    refine wpOp_step ho (fun K hK => steps_at hs o hmem u w hc (deps_of _ fun e he hb => ?_) K ?_)
    · have he' : e ∈ o.after := by simpa using he
      have := tidy_after ht ho he'
      exact hF e.on (by omega) (hall e he' hb)
    · intro v w' hcw hFv
      refine hK _ _ ?_
      rw [hd] at hFv ⊢
      have e1 : (⟨mk u, []⟩ : Act).put (some t) v = ⟨mk (upd u t v), []⟩ := by
        show Act.mk ((mk u).setIfInBounds t v) [] = _
        rw [hput]
      rw [e1]
      refine ih _ _ w' (by simpa using hsz) ?_ (hc.trans hcw (fun _ f => f.elim)) ?_
      · have : (listed.setIfInBounds i true).toList = listed.toList.set i true := by simp
        rw [this, List.countP_set (by simpa using his)]
        have h2 : 0 < listed.toList.countP (fun b => !b) := List.countP_pos_iff.2 ⟨false, by rw [← hl0]; simp, rfl⟩
        have h3 : (!(listed.toList[i]'(by simpa using his))) = true := by simp [hl0]
        rw [if_pos h3]
        simp only [Bool.not_true, Bool.false_eq_true, if_false]
        omega
      · intro j hj hlj
        by_cases e : j = i
        · subst e
          rw [slotOf_eq ho hd]
          simpa [upd] using hFv
        · have hne : slotOf ops j ≠ t := fun h => e (tidy_slot ht hj hio (by rw [h, slotOf_eq ho hd]))
          have hlj' : listed.getD j false = true := by
            rw [getD_set_ne false (Ne.symm e)] at hlj
            exact hlj
          have := hst _ _ _ _ hcw (hF j hj hlj')
          simpa [upd, hne] using this

/-- THE LAW: a region that draws its order, each operation shown once. -/
theorem wp_region_free {id : Nat} {a : Act} {w0 : World} (mk : (Nat → Value) → Array Value) (F : Nat → Value → World → Prop) (u0 : Nat → Value) (ha : a = ⟨mk u0, []⟩) (hm : P.follows .mixedOrders = true) (ht : tidy ops = true) (hp : Puts mk ops.toList)
    (hst : ∀ t v w w', Chg (fun _ => False) w w' → F t v w → F t v w')
    (hs : Steps P ops Q mk F w0 ops.toList) (hend : ∀ u w, Chg (fun _ => False) w0 w → Alls F u w ops.toList → Q .normal ⟨mk u, []⟩ w) : (Code.region id ops true).wp P Q a w0 := by
  subst ha
  refine wp_region_any hm (free_go w0 ht hp hst hs hend _ _ u0 _ (by simp) ?_ ((Chg.refl _ w0).drew) ?_)
  · have := List.countP_le_length (p := fun b => !b) (l := (Array.replicate ops.size false).toList)
    simpa using this
  · intro i hi h
    simp [hi] at h
end
end Go.Proofs.YtikokgngkagieaaDoor
