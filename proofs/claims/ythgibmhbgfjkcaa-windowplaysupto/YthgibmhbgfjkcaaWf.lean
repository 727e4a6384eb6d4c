/- A family of windows beside one another; of no statement by itself. -/
import Derived.Test.YthgibmhbgfjkcaaWp
namespace Go.Proofs.Ythgibmhbgfjkcaa
open Go.RowKit
set_option linter.unusedVariables false

variable {Win : World → Nat → Nat → Value → Nat → List Nat → Prop}
structure Wd where
  a : Nat
  v : Value
  n : Nat
  bs : List Nat
structure Fam (Win : World → Nat → Nat → Value → Nat → List Nat → Prop) (w0 w : World) (ws : List Wd) : Prop where
  win : ∀ i (h : i < ws.length), Win w w0.heap.size ws[i].a ws[i].v ws[i].n ws[i].bs
  apart : ∀ i j (hi : i < ws.length) (hj : j < ws.length), i ≠ j → ∀ z, Foot ws[i].a ws[i].v z → ¬ Foot ws[j].a ws[j].v z
  chg : Chg (fun _ => False) w0 w
theorem Fam.none (w : World) : Fam Win w w [] := ⟨fun i h => absurd h (Nat.not_lt_zero _), fun i j h => absurd h (Nat.not_lt_zero _), Chg.refl _ _⟩
theorem Fam.new (S : WinSpec Win) {w0 w w' : World} {ws : List Wd} (h : Fam Win w0 w ws) (hc : Chg (fun _ => False) w w') : Fam Win w0 w' ws := ⟨fun i hi => S.new (h.win i hi) hc, h.apart, chg_then h.chg hc⟩
/-- What lies elsewhere may change. -/
theorem Fam.keep (S : WinSpec Win) {w0 w w' : World} {ws : List Wd} {T : Nat → Prop} (h : Fam Win w0 w ws) (hc : Chg T w w') (hT : ∀ i (hi : i < ws.length) z, Foot ws[i].a ws[i].v z → ¬ T z) (h0 : ∀ z, T z → w0.heap.size ≤ z) : Fam Win w0 w' ws := ⟨fun i hi => S.keep (h.win i hi) hc (hT i hi), h.apart, h.chg.trans hc (fun z f => .inr (h0 z f))⟩
/-- One of them has turned. -/
theorem Fam.turn (S : WinSpec Win) {w0 w w' : World} {ws : List Wd} (h : Fam Win w0 w ws) (k : Nat) (hk : k < ws.length) (v' : Value) (bs' : List Nat) (hw : Win w' w0.heap.size ws[k].a v' ws[k].n bs') (hc : Chg (Foot ws[k].a ws[k].v) w w') (hm : Moved w ws[k].v v') : Fam Win w0 w' (ws.set k ⟨ws[k].a, v', ws[k].n, bs'⟩) := by
  have far : ∀ i (hi : i < ws.length), i ≠ k → ∀ z, Foot ws[i].a ws[i].v z → ¬ Foot ws[k].a v' z := fun i hi hne z f g => by
    rcases hm.foot _ z g with q | q
    · exact h.apart i k hi hk hne z f q
    · have := (S.lt (h.win i hi) z f).2; omega
  refine ⟨fun i hi => ?_, fun i j hi hj hne z f => ?_, h.chg.trans hc (fun z f => .inr (S.lt (h.win k hk) z f).1)⟩
  · have hi2 : i < ws.length := by simpa using hi
    by_cases e : i = k
    · subst e
      rw [List.getElem_set_self]
      exact hw
    · rw [List.getElem_set_ne (fun x => e x.symm)]
      exact S.keep (h.win i hi2) hc (fun z f g => h.apart i k hi2 hk e z f g)
  · have hi2 : i < ws.length := by simpa using hi
    have hj2 : j < ws.length := by simpa using hj
    by_cases ei : i = k
    · subst ei
      rw [List.getElem_set_self] at f
      rw [List.getElem_set_ne (fun x => hne x)]
      exact fun g => far j hj2 (fun x => hne x.symm) z g f
    · rw [List.getElem_set_ne (fun x => ei x.symm)] at f
      by_cases ej : j = k
      · subst ej
        rw [List.getElem_set_self]
        exact far i hi2 ei z f
      · rw [List.getElem_set_ne (fun x => ej x.symm)]
        exact h.apart i j hi2 hj2 hne z f
/-- One more. -/
theorem Fam.push (S : WinSpec Win) {w0 w w' : World} {ws : List Wd} (h : Fam Win w0 w ws) (x : Wd) (hw : Win w' w.heap.size x.a x.v x.n x.bs) (hc : Chg (fun _ => False) w w') : Fam Win w0 w' (ws ++ [x]) := by
  have hlt : ∀ i (hi : i < ws.length) z, Foot ws[i].a ws[i].v z → z < w.heap.size := fun i hi z f => (S.lt (h.win i hi) z f).2
  have hge : ∀ z, Foot x.a x.v z → w.heap.size ≤ z := fun z f => (S.lt hw z f).1
  refine ⟨fun i hi => ?_, fun i j hi hj hne z f g => ?_, chg_then h.chg hc⟩
  · by_cases e : i < ws.length
    · rw [List.getElem_append_left e]
      exact S.new (h.win i e) hc
    · have ei : i = ws.length := by rw [List.length_append, List.length_singleton] at hi; omega
      subst ei
      rw [List.getElem_append_right (Nat.le_refl _)]
      simp only [Nat.sub_self, List.getElem_cons_zero]
      exact S.down hw h.chg.size
  · rw [List.length_append, List.length_singleton] at hi hj
    by_cases ei : i < ws.length
    · rw [List.getElem_append_left ei] at f
      by_cases ej : j < ws.length
      · rw [List.getElem_append_left ej] at g
        exact h.apart i j ei ej hne z f g
      · have e2 : j = ws.length := by omega
        subst e2
        rw [List.getElem_append_right (Nat.le_refl _)] at g
        simp only [Nat.sub_self, List.getElem_cons_zero] at g
        have := hlt i ei z f; have := hge z g; omega
    · have e1 : i = ws.length := by omega
      subst e1
      rw [List.getElem_append_right (Nat.le_refl _)] at f
      simp only [Nat.sub_self, List.getElem_cons_zero] at f
      have ej : j < ws.length := by omega
      rw [List.getElem_append_left ej] at g
      have := hlt j ej z g; have := hge z f; omega
end Go.Proofs.Ythgibmhbgfjkcaa
