/- A map as a function from keys to values, whatever the keys' type; of no statement by itself. -/
import Derived.Test.YtkdionoelbiidaaRg
import Derived.Maps.Own
import Derived.Maps.Views
namespace Go.Proofs.Ytkdionoelbiidaa
open Go.RowKit
open Go.Maps (Keyed)
set_option linter.unusedVariables false

/-- Each element reads as itself. -/
def RV (v : Value) : Option (DataW Value × List MemPlace) := some (.held v, [])
open Classical in
/-- One entry more, or another value at its key. -/
noncomputable def putF (F : Lit → Option Value) (kl : Lit) (v : Value) : Lit → Option Value := fun x => if x = kl then some v else F x
theorem putF_same (F : Lit → Option Value) (kl : Lit) (v : Value) : putF F kl v kl = some v := by simp [putF]
theorem putF_other (F : Lit → Option Value) {kl x : Lit} (v : Value) (h : x ≠ kl) : putF F kl v x = F x := by simp [putF, h]
/-- The map in the block b: at most n entries; F tells them. -/
def MapF (w : World) (P : Program) (k : TypeId) (b n : Nat) (F : Lit → Option Value) : Prop := ∃ D, w.ownsMap P k RV b n D ∧ ∀ kl, WideAt.IsKeyLit kl → ∀ z, D.atKey kl (.held z) = .held ((F kl).getD z)
section
variable {P : Program} {k t e : TypeId} {w w' : World} {b n : Nat} {F : Lit → Option Value}
theorem MapF.made (w : World) (P : Program) (k : TypeId) : MapF (w.alloc (.map #[] 0)) P k w.heap.size 0 (fun _ => none) := ⟨_, World.ownsMap_made w P k RV, fun kl _ z => by simp [DataW.atKey]⟩
theorem MapF.keep {S : Nat → Prop} (h : MapF w P k b n F) (hc : Chg S w w') (hb : ¬ S b) : MapF w' P k b n F := by
  obtain ⟨D, ⟨es, clock, h1, h2, h3, h4⟩, h5⟩ := h
  exact ⟨D, ⟨es, clock, blk_keep h1 hc hb, h2, h3, h4⟩, h5⟩
theorem MapF.lt (h : MapF w P k b n F) : b < w.heap.size := by
  obtain ⟨D, h1, _⟩ := h
  exact h1.lt
theorem MapF.noCells (h : MapF w P k b n F) : ∃ o : Obj, w.heap[b]? = some o ∧ o.isCells = false := by
  obtain ⟨D, ⟨es, clock, h1, _⟩, _⟩ := h
  exact ⟨_, h1, rfl⟩
theorem MapF.look (h : MapF w P k b n F) (K : Keyed P k) (ht : P.underlying t = some (.map k e)) {z : Value} (hz : (zeroValue e).run P w = .ok z w) {key : Value} {kl : Lit} (hkey : keyOf P k key = some kl) : (Instr.lookup t (.map (some b)) key false).run P w = .ok ((F kl).getD z) w := by
  obtain ⟨D, h1, h2⟩ := h
  obtain ⟨v, ps, hrun, hv⟩ := h1.lookup K ht hz (zd := .held z) (zp := []) rfl hkey
  rw [h2 kl (K.key hkey) z] at hv
  simp only [RV, Option.some.injEq, Prod.mk.injEq, DataW.held.injEq] at hv
  rw [hrun, hv.1]
theorem MapF.look_ok (h : MapF w P k b n F) (K : Keyed P k) (ht : P.underlying t = some (.map k e)) {z : Value} (hz : (zeroValue e).run P w = .ok z w) {key : Value} {kl : Lit} (hkey : keyOf P k key = some kl) : (Instr.lookup t (.map (some b)) key true).run P w = .ok (.tuple #[(F kl).getD z, .bool (F kl).isSome]) w := by
  obtain ⟨D, ⟨es, clock, hb, Ft, _, rfl⟩, h2⟩ := h
  have g := h2 kl (K.key hkey)
  rcases Maps.fit_look true K ht hz hb Ft hkey with ⟨hrun, _, hat⟩ | ⟨e0, y, _, _, hrun, hRv, hat, _⟩
  · have hn : F kl = none := by
      cases hF : F kl with
      | none => rfl
      | some v =>
        have g0 := g (.bool true)
        have g1 := g (.bool false)
        rw [hat, hF] at g0 g1
        simp only [DataW.held.injEq, Option.getD_some] at g0 g1
        rw [← g0] at g1
        cases g1
    rw [hrun, hn]
    rfl
  · have hy : y.1 = .held e0.val := by
      simp only [RV, Option.some.injEq] at hRv
      rw [← hRv]
    have hs : F kl = some e0.val := by
      cases hF : F kl with
      | none =>
        have g0 := g (.bool true)
        have g1 := g (.bool false)
        rw [hat, hF, hy] at g0 g1
        simp only [DataW.held.injEq, Option.getD_none] at g0 g1
        rw [g0] at g1
        cases g1
      | some v =>
        have g0 := g z
        rw [hat, hF, hy] at g0
        simp only [DataW.held.injEq, Option.getD_some] at g0
        rw [g0]
    rw [hrun, hs]
    rfl
theorem MapF.put (h : MapF w P k b n F) (K : Keyed P k) (ht : P.underlying t = some (.map k e)) (hn : n < maxLen) {key : Value} {kl : Lit} (hkey : keyOf P k key = some kl) (val : Value) : ∃ w', (Instr.mapUpdate t (.map (some b)) key val).run P w = .ok () w' ∧ MapF w' P k b (n + 1) (putF F kl val) ∧ Chg (fun z => z = b) w w' := by
  obtain ⟨D, h1, h2⟩ := h
  obtain ⟨w', hrun, hown, hg⟩ := h1.update K ht hn (val := val) (d := .held val) (ps := []) hkey rfl
  refine ⟨w', hrun, ⟨_, hown, fun x hx z => ?_⟩, ((Chg.refl _ w).grown hg (fun z e => .inl (by simpa using e.symm)))⟩
  by_cases e : x = kl
  · subst e
    have hD : Maps.IsMap D := by obtain ⟨es, clock, _, _, _, rfl⟩ := h1; exact ⟨_, rfl⟩
    rw [Maps.atKey_put_same hD hx, putF_same]
    rfl
  · rw [Maps.atKey_put_other e, h2 x hx z, putF_other F val e]
end
end Go.Proofs.Ytkdionoelbiidaa
