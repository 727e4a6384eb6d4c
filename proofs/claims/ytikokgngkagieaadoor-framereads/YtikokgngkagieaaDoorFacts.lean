/- What a slot of a region may be known to hold ('Fact'): a value, a block; that memory that is only added to keeps it; of no statement by itself. -/
import Derived.Test.YtikokgngkagieaaDoorLast
namespace Go.Proofs.YtikokgngkagieaaDoor
open Go.RowKit

inductive Fact where
  | any
  | val (v : Value)
  | blk (B : Nat) (cs : List Value) (t : TypeId)
  | is (p : Value → World → Prop)

def Fact.holds : Fact → Value → World → Prop
  | .any, _, _ => True
  | .val u, v, _ => v = u
  | .blk B cs t, v, w => ∃ g, v = .pointer (some ⟨g, 0, none⟩) ∧ B ≤ g ∧ w.heap[g]? = some (.cells cs.toArray t (0, 0))
  | .is p, v, w => ∃ w0, p v w0 ∧ Chg (fun _ => False) w0 w

theorem Fact.stays (f : Fact) (v : Value) (w w' : World) (hc : Chg (fun _ => False) w w') (h : f.holds v w) : f.holds v w' := by
  cases f with
  | any => trivial
  | val u => exact h
  | blk B cs t => obtain ⟨g, e, hB, hb⟩ := h; exact ⟨g, e, hB, blk_keep hb hc (fun f => f)⟩
  | is p => obtain ⟨w0, e, hp⟩ := h; exact ⟨w0, e, chg_then hp hc⟩

theorem Deps.get {ops : Array Oper} {F : Nat → Value → World → Prop} {u : Nat → Value} {w : World} : ∀ {es : List Edge}, Deps ops F u w es → ∀ i, (es.any fun e => e.on == i && Region.binds .any e) = true → F (slotOf ops i) (u (slotOf ops i)) w
  | [], _, i, h => by cases h
  | e :: es, hd, i, h => by
    rw [List.any_cons, Bool.or_eq_true] at h
    rcases h with h | h
    · simp only [Bool.and_eq_true, beq_iff_eq] at h
      obtain ⟨rfl, h⟩ := h
      exact hd.1 h
    · exact Deps.get hd.2 i h

theorem Alls.at {F : Nat → Value → World → Prop} {u : Nat → Value} {w : World} : ∀ {l : List Oper}, Alls F u w l → ∀ t, (l.any fun o => o.dst.getD 0 == t) = true → F t (u t) w
  | [], _, t, h => by cases h
  | o :: l, hd, t, h => by
    rw [List.any_cons, Bool.or_eq_true] at h
    rcases h with h | h
    · simp only [beq_iff_eq] at h
      subst h
      exact hd.1
    · exact Alls.at hd.2 t h

/-- Facts by a list of slots. -/
def look (l : List (Nat × Fact)) (t : Nat) : Fact := (l.lookup t).getD .any

end Go.Proofs.YtikokgngkagieaaDoor
