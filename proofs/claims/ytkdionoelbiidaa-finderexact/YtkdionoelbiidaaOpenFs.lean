/- What the reading of a list of steps gives; of no statement by itself. -/
import Derived.Test.YtkdionoelbiidaaFk
import Derived.Test.YtkdionoelbiidaaOpenF
import Derived.ProofKit
import Derived.OpenShut
import Derived.ShutString
import Derived.ChangeOld
import Derived.SizedLaws
import Derived.Below
import Derived.Deep.Slices
namespace Go.Proofs.Ytkdionoelbiidaa
open Go.ChangeShapes Go.WideShapes Go.ChangeAt Go.RowKit
set_option linter.unusedVariables false

theorem cellsSt : Try.prog.cellsOf 50 = 3 := by kernel_rfl
theorem bytesSt : Try.prog.bytesOf 50 = 24 := by kernel_rfl
theorem three_cells {cs : List Value} (h : cs.length = 3) : ∃ c0 c1 c2, cs = [c0, c1, c2] := by
  match cs, h with
  | [c0, c1, c2], _ => exact ⟨c0, c1, c2, rfl⟩
theorem addadd (b off i j : Nat) : ((⟨b, off, none⟩ : Addr).add i).add j = ⟨b, off + i + j, none⟩ := by rw [addk, addk]
def stCells (o : Int × Int × Int) : List Value := [.int .i64 o.1, .int .i64 o.2.1, .int .i64 o.2.2]
theorem open_st {H : Type} {enc : TypeId × Value → H} {W : World} {fuel : Nat} {cs : List Value} {y : DataW H × List MemPlace}
    (hf : DataW.trod enc Try.prog W 0 (fun _ => true) true fuel 50 cs = some y) : ∃ o : Int × Int × Int, cs = stCells o ∧ I64 o.1 ∧ I64 o.2.1 ∧ I64 o.2.2 := by
  obtain ⟨xs, n, _, rfl, hl, hlen, hx⟩ := DataW.trod_struct Try.underlying50 hf
  rw [cellsSt] at hl
  obtain ⟨c0, c1, c2, rfl⟩ := three_cells hl
  have h0 : DataW.trod enc Try.prog W 0 (fun _ => true) true n 3 [c0] = xs[0]? := by have := hx 0 _ rfl; simpa [cellsI] using this
  have h1 : DataW.trod enc Try.prog W 0 (fun _ => true) true n 3 [c1] = xs[1]? := by have := hx 1 _ rfl; simpa [cellsI] using this
  have h2 : DataW.trod enc Try.prog W 0 (fun _ => true) true n 3 [c2] = xs[2]? := by have := hx 2 _ rfl; simpa [cellsI] using this
  have hs : xs.length = 3 := by simpa using hlen
  obtain ⟨y0, e0⟩ : ∃ y, xs[0]? = some y := ⟨xs[0], List.getElem?_eq_getElem (by omega)⟩
  rw [e0] at h0
  obtain ⟨y1, e1⟩ : ∃ y, xs[1]? = some y := ⟨xs[1], List.getElem?_eq_getElem (by omega)⟩
  rw [e1] at h1
  obtain ⟨y2, e2⟩ : ∃ y, xs[2]? = some y := ⟨xs[2], List.getElem?_eq_getElem (by omega)⟩
  rw [e2] at h2
  obtain ⟨z0, q0, _, w0⟩ := DataW.trod_int Try.underlying3 h0
  obtain ⟨z1, q1, _, w1⟩ := DataW.trod_int Try.underlying3 h1
  obtain ⟨z2, q2, _, w2⟩ := DataW.trod_int Try.underlying3 h2
  simp only [List.cons.injEq, and_true] at q0 q1 q2
  subst q0 q1 q2
  have b0 := bounds_i64 w0
  have b1 := bounds_i64 w1
  have b2 := bounds_i64 w2
  exact ⟨⟨z0, z1, z2⟩, rfl, ⟨b0.1, b0.2⟩, ⟨b1.1, b1.2⟩, ⟨b2.1, b2.2⟩⟩
set_option maxRecDepth 100000 in
theorem open_stepsL {H : Type} {enc : TypeId × Value → H} {W : World} {a : Option Addr} {len cap : Nat} {d : DataW H} {p : List MemPlace}
    (h : DataW.Trod enc Try.prog W 0 (fun _ => true) true 45 (.slice a len cap) d p) : ∃ l : List (Int × Int × Int), StL W a l ∧ l.length = len ∧ (∀ N, (∀ elems spare, d = .slice elems spare → elems.length + spare.length ≤ N) → len ≤ N) := by
  obtain ⟨fuel, hf⟩ := h
  rcases Deep.open_slice Try.underlying45 hf with ⟨hcs, _⟩ | ⟨x, len', cap', m, n, D, Pl, hcs, _, hl, hm, hmm, hx, hel⟩
  · simp [Value.cells] at hcs
    obtain ⟨rfl, rfl, rfl⟩ := hcs
    exact ⟨[], fun k q hk => by simp at hk, rfl, fun _ _ => Nat.zero_le _⟩
  · simp [Value.cells] at hcs
    obtain ⟨rfl, rfl, rfl⟩ := hcs
    simp only [if_true] at hmm
    subst hmm
    simp only [Prod.mk.injEq] at hx
    have hb : ∀ N, (∀ elems spare, d = .slice elems spare → elems.length + spare.length ≤ N) → len ≤ N := fun N hN => by
      have hs := hN _ _ hx.1
      simp only [List.length_map, List.length_range] at hs
      omega
    have hq : ∀ k, ∃ q : Int × Int × Int, k < len → (I64 q.1 ∧ I64 q.2.1 ∧ I64 q.2.2) ∧ W.cells? 0 (x.add (k * 3)) 3 = some (stCells q) := fun k => by
      by_cases hk : k < len
      · obtain ⟨cs', h1, h2⟩ := hel k (by omega)
        rw [cellsSt] at h1
        obtain ⟨q, e, hv⟩ := open_st h2
        subst e
        exact ⟨q, fun _ => ⟨hv, h1⟩⟩
      · exact ⟨⟨0, 0, 0⟩, fun f => absurd f hk⟩
    obtain ⟨f, hf⟩ := Classical.axiomOfChoice hq
    refine ⟨(List.range len).map f, fun k q hk => ?_, by simp, hb⟩
    have hkl : k < len := by
      have := (List.getElem?_eq_some_iff.1 hk).1
      simpa using this
    have hfk : f k = q := by simpa [hkl] using hk
    obtain ⟨hv, h1⟩ := hf k hkl
    rw [hfk] at hv h1
    have hc := (World.cells?_some h1).2.2
    obtain ⟨g, off, sp⟩ := x
    have g0 := hc 0 (by simp)
    have g1 := hc 1 (by simp)
    have g2 := hc 2 (by simp)
    have hs : sp = none := by
      obtain ⟨_, q1⟩ := hf 0 (by omega)
      have q0 := (World.cells?_some q1).2.2 0 (by simp)
      simp [Addr.add] at q0
      exact World.cell?_spot q0
    subst hs
    have q0 : W.cell? ⟨g, off + k * 3, none⟩ = some (.int .i64 q.1) := by have := addadd g off (k * 3) 0; rw [Nat.add_zero] at this; rw [← this]; exact g0
    exact ⟨hv, g, off, rfl, q0, by rw [← addadd g off (k * 3) 1]; exact g1, by rw [← addadd g off (k * 3) 2]; exact g2⟩
end Go.Proofs.Ytkdionoelbiidaa
