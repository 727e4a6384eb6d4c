/- What the readings of the arguments give: lists of whole numbers, of steps, of truths; of no statement by themselves. -/
import Derived.Test.YtibgjpifmpljkaaOpenD
import Derived.Test.YtibgjpifmpljkaaTcs
namespace Go.Proofs.Ytibgjpifmpljkaa
open Go.ChangeShapes Go.WideShapes Go.ChangeAt Go.RowKit
set_option linter.unusedVariables false

theorem cellsOp : Try.prog.cellsOf 50 = 5 := by kernel_rfl
theorem bytesOp : Try.prog.bytesOf 50 = 40 := by kernel_rfl
theorem bytesInt : Try.prog.bytesOf 3 = 8 := by kernel_rfl
theorem five_cells {cs : List Value} (h : cs.length = 5) : ∃ c0 c1 c2 c3 c4, cs = [c0, c1, c2, c3, c4] := by
  match cs, h with
  | [c0, c1, c2, c3, c4], _ => exact ⟨c0, c1, c2, c3, c4, rfl⟩
theorem open_flagsN {H : Type} {enc : TypeId × Value → H} {W : World} {a : Option Addr} {len cap : Nat} {d : DataW H} {p : List MemPlace}
    (h : DataW.Trod enc Try.prog W 0 (fun _ => true) true 33 (.slice a len cap) d p) (N : Nat) (hN : ∀ elems spare, d = .slice elems spare → elems.length + spare.length ≤ N) : len ≤ N := by
  obtain ⟨fuel, hf⟩ := h
  rcases Deep.open_slice1 Try.underlying33 cellsBool hf with ⟨hcs, _⟩ | ⟨x, len', cap', m, n, V, D, Pl, hcs, _, hl, hm, hmm, hx, hel⟩
  · simp [Value.cells] at hcs
    omega
  · simp [Value.cells] at hcs
    obtain ⟨rfl, rfl, rfl⟩ := hcs
    simp only [if_true] at hmm
    subst hmm
    simp only [Prod.mk.injEq] at hx
    have hs := hN _ _ hx.1
    simp only [List.length_map, List.length_range] at hs
    omega
theorem open_intsL {H : Type} {enc : TypeId × Value → H} {W : World} {a : Option Addr} {len cap : Nat} {d : DataW H} {p : List MemPlace}
    (h : DataW.Trod enc Try.prog W 0 (fun _ => true) true 43 (.slice a len cap) d p) : ∃ l : List Int, IntsL W a l ∧ l.length = len ∧ (∀ N, (∀ elems spare, d = .slice elems spare → elems.length + spare.length ≤ N) → len ≤ N) := by
  obtain ⟨fuel, hf⟩ := h
  rcases Deep.open_slice1 Try.underlying43 cellsI hf with ⟨hcs, _⟩ | ⟨x, len', cap', m, n, V, D, Pl, hcs, _, hl, hm, hmm, hx, hel⟩
  · simp [Value.cells] at hcs
    obtain ⟨rfl, rfl, rfl⟩ := hcs
    exact ⟨[], fun k q hk => by simp at hk, rfl, fun _ _ => Nat.zero_le _⟩
  · simp [Value.cells] at hcs
    obtain ⟨rfl, rfl, rfl⟩ := hcs
    simp only [if_true] at hmm
    subst hmm
    simp only [Prod.mk.injEq] at hx
    have hb : ∀ N, (∀ elems spare, d = .slice elems spare → elems.length + spare.length ≤ N) → len ≤ N := fun N hN => by
      have hs := hN _ _ hx.1
      simp only [List.length_map, List.length_range] at hs
      omega
    have hq : ∀ k, ∃ q : Int, k < len → W.cell? (x.add k) = some (.int .i64 q) := fun k => by
      by_cases hk : k < len
      · obtain ⟨h1, h2⟩ := hel k (by omega)
        obtain ⟨z0, q0, _, _⟩ := DataW.trod_int Try.underlying3 h2
        simp only [List.cons.injEq, and_true] at q0
        exact ⟨z0, fun _ => by rw [← q0]; exact h1⟩
      · exact ⟨0, fun f => absurd f hk⟩
    obtain ⟨f, hf⟩ := Classical.axiomOfChoice hq
    refine ⟨(List.range len).map f, fun k q hk => ?_, by simp, hb⟩
    have hkl : k < len := by
      have := (List.getElem?_eq_some_iff.1 hk).1
      simpa using this
    have hfk : f k = q := by simpa [hkl] using hk
    have h1 := hf k hkl
    rw [hfk] at h1
    obtain ⟨g, off, sp⟩ := x
    have hs : sp = none := by
      have q1 := hf 0 (by omega)
      simp [Addr.add] at q1
      exact World.cell?_spot q1
    subst hs
    rw [addk] at h1
    exact ⟨g, off, rfl, h1⟩
def Stp.cells (o : Stp) : List Value := [.int .i64 o.kd, .int .i64 o.row, .int .i64 o.p, .int .i64 o.n, .int .i64 o.x]
theorem open_op {H : Type} {enc : TypeId × Value → H} {W : World} {fuel : Nat} {cs : List Value} {y : DataW H × List MemPlace}
    (hf : DataW.trod enc Try.prog W 0 (fun _ => true) true fuel 50 cs = some y) : ∃ o : Stp, cs = o.cells ∧ o.I := by
  obtain ⟨xs, n, _, rfl, hl, hlen, hx⟩ := DataW.trod_struct Try.underlying50 hf
  rw [cellsOp] at hl
  obtain ⟨c0, c1, c2, c3, c4, rfl⟩ := five_cells hl
  have h0 : DataW.trod enc Try.prog W 0 (fun _ => true) true n 3 [c0] = xs[0]? := by have := hx 0 _ rfl; simpa [cellsI] using this
  have h1 : DataW.trod enc Try.prog W 0 (fun _ => true) true n 3 [c1] = xs[1]? := by have := hx 1 _ rfl; simpa [cellsI] using this
  have h2 : DataW.trod enc Try.prog W 0 (fun _ => true) true n 3 [c2] = xs[2]? := by have := hx 2 _ rfl; simpa [cellsI] using this
  have h3 : DataW.trod enc Try.prog W 0 (fun _ => true) true n 3 [c3] = xs[3]? := by have := hx 3 _ rfl; simpa [cellsI] using this
  have h4 : DataW.trod enc Try.prog W 0 (fun _ => true) true n 3 [c4] = xs[4]? := by have := hx 4 _ rfl; simpa [cellsI] using this
  have hs : xs.length = 5 := by simpa using hlen
  obtain ⟨y0, e0⟩ : ∃ y, xs[0]? = some y := ⟨xs[0], List.getElem?_eq_getElem (by omega)⟩
  obtain ⟨y1, e1⟩ : ∃ y, xs[1]? = some y := ⟨xs[1], List.getElem?_eq_getElem (by omega)⟩
  obtain ⟨y2, e2⟩ : ∃ y, xs[2]? = some y := ⟨xs[2], List.getElem?_eq_getElem (by omega)⟩
  obtain ⟨y3, e3⟩ : ∃ y, xs[3]? = some y := ⟨xs[3], List.getElem?_eq_getElem (by omega)⟩
  obtain ⟨y4, e4⟩ : ∃ y, xs[4]? = some y := ⟨xs[4], List.getElem?_eq_getElem (by omega)⟩
  rw [e0] at h0
  rw [e1] at h1
  rw [e2] at h2
  rw [e3] at h3
  rw [e4] at h4
  obtain ⟨z0, q0, _, w0⟩ := DataW.trod_int Try.underlying3 h0
  obtain ⟨z1, q1, _, w1⟩ := DataW.trod_int Try.underlying3 h1
  obtain ⟨z2, q2, _, w2⟩ := DataW.trod_int Try.underlying3 h2
  obtain ⟨z3, q3, _, w3⟩ := DataW.trod_int Try.underlying3 h3
  obtain ⟨z4, q4, _, w4⟩ := DataW.trod_int Try.underlying3 h4
  simp only [List.cons.injEq, and_true] at q0 q1 q2 q3 q4
  subst q0 q1 q2 q3 q4
  have b2 := bounds_i64 w2
  have b3 := bounds_i64 w3
  have b4 := bounds_i64 w4
  exact ⟨⟨z0, z1, z2, z3, z4⟩, rfl, ⟨⟨b2.1, b2.2⟩, ⟨b3.1, b3.2⟩, ⟨b4.1, b4.2⟩⟩⟩

set_option maxRecDepth 100000 in
theorem open_stepsL {H : Type} {enc : TypeId × Value → H} {W : World} {a : Option Addr} {len cap : Nat} {d : DataW H} {p : List MemPlace}
    (h : DataW.Trod enc Try.prog W 0 (fun _ => true) true 44 (.slice a len cap) d p) : ∃ l : List Stp, StepsL W a l ∧ l.length = len ∧ (∀ N, (∀ elems spare, d = .slice elems spare → elems.length + spare.length ≤ N) → len ≤ N) := by
  obtain ⟨fuel, hf⟩ := h
  rcases Deep.open_slice Try.underlying44 hf with ⟨hcs, _⟩ | ⟨x, len', cap', m, n, D, Pl, hcs, _, hl, hm, hmm, hx, hel⟩
  · simp [Value.cells] at hcs
    obtain ⟨rfl, rfl, rfl⟩ := hcs
    exact ⟨[], fun k q hk => by simp at hk, rfl, fun _ _ => Nat.zero_le _⟩
  · simp [Value.cells] at hcs
    obtain ⟨rfl, rfl, rfl⟩ := hcs
    simp only [if_true] at hmm
    subst hmm
    simp only [Prod.mk.injEq] at hx
    have hb : ∀ N, (∀ elems spare, d = .slice elems spare → elems.length + spare.length ≤ N) → len ≤ N := fun N hN => by
      have hs := hN _ _ hx.1
      simp only [List.length_map, List.length_range] at hs
      omega
    have hq : ∀ k, ∃ q : Stp, k < len → q.I ∧ W.cells? 0 (x.add (k * 5)) 5 = some q.cells := fun k => by
      by_cases hk : k < len
      · obtain ⟨cs', h1, h2⟩ := hel k (by omega)
        rw [cellsOp] at h1
        obtain ⟨q, e, hv⟩ := open_op h2
        subst e
        exact ⟨q, fun _ => ⟨hv, h1⟩⟩
      · exact ⟨⟨0, 0, 0, 0, 0⟩, fun f => absurd f hk⟩
    obtain ⟨f, hf⟩ := Classical.axiomOfChoice hq
    refine ⟨(List.range len).map f, fun k q hk => ?_, by simp, hb⟩
    have hkl : k < len := by
      have := (List.getElem?_eq_some_iff.1 hk).1
      simpa using this
    have hfk : f k = q := by simpa [hkl] using hk
    obtain ⟨hv, h1⟩ := hf k hkl
    rw [hfk] at hv h1
    have hc := (World.cells?_some h1).2.2
    obtain ⟨g, off, sp⟩ := x
    have g0 := hc 0 (by simp)
    have g1 := hc 1 (by simp)
    have g2 := hc 2 (by simp)
    have g3 := hc 3 (by simp)
    have g4 := hc 4 (by simp)
    have hs : sp = none := by
      obtain ⟨_, q1⟩ := hf 0 (by omega)
      have q0 := (World.cells?_some q1).2.2 0 (by simp)
      simp [Addr.add] at q0
      exact World.cell?_spot q0
    subst hs
    have q0 : W.cell? ⟨g, off + k * 5, none⟩ = some (.int .i64 q.kd) := by have := addadd g off (k * 5) 0; rw [Nat.add_zero] at this; rw [← this]; exact g0
    exact ⟨hv, g, off, rfl, q0, by rw [← addadd g off (k * 5) 1]; exact g1, by rw [← addadd g off (k * 5) 2]; exact g2, by rw [← addadd g off (k * 5) 3]; exact g3, by rw [← addadd g off (k * 5) 4]; exact g4⟩
end Go.Proofs.Ytibgjpifmpljkaa
