/- What the readings of the arguments give; of no statement by themselves. -/
import Derived.Test.YtoeimahlielklaaHs

import Derived.ProofKit
import Derived.OpenShut
import Derived.ShutString
import Derived.ChangeOld
import Derived.SizedLaws
import Derived.Below
import Derived.Deep.Slices
namespace Go.Proofs.Ytoeimahlielklaa
open Go.ChangeShapes Go.WideShapes Go.ChangeAt Go.RowKit
set_option linter.unusedVariables false
set_option linter.unusedSimpArgs false
theorem ocI : Try.prog.cellsOf 3 = 1 := by kernel_rfl
theorem ocB : Try.prog.cellsOf 4 = 1 := by kernel_rfl
theorem ocU : Try.prog.cellsOf 5 = 1 := by kernel_rfl
theorem obI : Try.prog.bytesOf 3 = 8 := by kernel_rfl
theorem obU : Try.prog.bytesOf 5 = 1 := by kernel_rfl
theorem oadd (b off i j : Nat) : ((⟨b, off, none⟩ : Addr).add i).add j = ⟨b, off + i + j, none⟩ := by rw [addk, addk]
theorem open_intsL {H : Type} {enc : TypeId × Value → H} {W : World} {a : Option Addr} {len cap : Nat} {d : DataW H} {p : List MemPlace}
    (h : DataW.Trod enc Try.prog W 0 (fun _ => true) true 22 (.slice a len cap) d p) : ∃ l : List Int, (∀ (k : Nat) (x : Int), l[k]? = some x → ∃ b off, a = some ⟨b, off, none⟩ ∧ W.cell? ⟨b, off + k, none⟩ = some (.int .i64 x)) ∧ (∀ i ∈ l, I64 i) ∧ l.length = len ∧ (∀ N, (∀ elems spare, d = .slice elems spare → elems.length + spare.length ≤ N) → len ≤ N) := by
  obtain ⟨fuel, hf⟩ := h
  rcases Deep.open_slice1 Try.underlying22 ocI hf with ⟨hcs, _⟩ | ⟨x, len', cap', m, n, V, D, Pl, hcs, _, hl, hm, hmm, hx, hel⟩
  · simp [Value.cells] at hcs
    obtain ⟨rfl, rfl, rfl⟩ := hcs
    exact ⟨[], fun k q hk => by simp at hk, fun i hi => by simp at hi, rfl, fun _ _ => Nat.zero_le _⟩
  · simp [Value.cells] at hcs
    obtain ⟨rfl, rfl, rfl⟩ := hcs
    simp only [if_true] at hmm
    subst hmm
    simp only [Prod.mk.injEq] at hx
    have hb : (∀ N, (∀ elems spare, d = .slice elems spare → elems.length + spare.length ≤ N) → len ≤ N) := fun N hN => by
      have hs := hN _ _ hx.1
      simp only [List.length_map, List.length_range] at hs
      omega
    have hq : ∀ k, ∃ q : Int, k < len → W.cell? (x.add k) = some (.int .i64 q) ∧ I64 q := fun k => by
      by_cases hk : k < len
      · obtain ⟨h1, h2⟩ := hel k (by omega)
        obtain ⟨z0, q0, _, w0⟩ := DataW.trod_int Try.underlying3 h2
        simp only [List.cons.injEq, and_true] at q0
        exact ⟨z0, fun _ => ⟨by rw [← q0]; exact h1, (bounds_i64 w0).1, (bounds_i64 w0).2⟩⟩
      · exact ⟨0, fun f => absurd f hk⟩
    obtain ⟨f, hf⟩ := Classical.axiomOfChoice hq
    refine ⟨(List.range len).map f, fun k q hk => ?_, fun i hi => by
      simp only [List.mem_map, List.mem_range] at hi
      obtain ⟨k, hk, rfl⟩ := hi
      exact (hf k hk).2, by simp, hb⟩
    have hkl : k < len := by
      have := (List.getElem?_eq_some_iff.1 hk).1
      simpa using this
    have hfk : f k = q := by simpa [hkl] using hk
    have h1 := (hf k hkl).1
    rw [hfk] at h1
    obtain ⟨g, off, sp⟩ := x
    have hs : sp = none := by
      have q1 := (hf 0 (by omega)).1
      simp [Addr.add] at q1
      exact World.cell?_spot q1
    subst hs
    rw [addk] at h1
    exact ⟨g, off, rfl, h1⟩
theorem ocMv : Try.prog.cellsOf 42 = 4 := by kernel_rfl
def Mv.cells (o : Mv) : List Value := [.int .i64 o.k, .bool o.t, .int .i64 o.x, .int .i64 o.y]
/-- Its numbers are within their kinds. -/
def Mv.ok (o : Mv) : Prop := I64 o.k ∧ I64 o.x ∧ I64 o.y ∧ True
theorem Mv_cut {cs : List Value} (h : cs.length = 4) : ∃ c0 c1 c2 c3, cs = [c0, c1, c2, c3] := by
  match cs, h with
  | [c0, c1, c2, c3], _ => exact ⟨c0, c1, c2, c3, rfl⟩
theorem open_Mvc {H : Type} {enc : TypeId × Value → H} {W : World} {fuel : Nat} {cs : List Value} {y : DataW H × List MemPlace}
    (hf : DataW.trod enc Try.prog W 0 (fun _ => true) true fuel 42 cs = some y) : ∃ o : Mv, cs = o.cells ∧ o.ok := by
  obtain ⟨xs, n, _, rfl, hl, hlen, hx⟩ := DataW.trod_struct Try.underlying42 hf
  rw [ocMv] at hl
  obtain ⟨c0, c1, c2, c3, rfl⟩ := Mv_cut hl
  have hs : xs.length = 4 := by simpa using hlen
  have h0 : DataW.trod enc Try.prog W 0 (fun _ => true) true n 3 [c0] = xs[0]? := by have := hx 0 _ rfl; simpa [ocI, ocB, ocU] using this
  obtain ⟨y0, e0⟩ : ∃ y, xs[0]? = some y := ⟨xs[0], List.getElem?_eq_getElem (by omega)⟩
  rw [e0] at h0
  obtain ⟨z0, q0, _, w0⟩ := DataW.trod_int Try.underlying3 h0
  have h1 : DataW.trod enc Try.prog W 0 (fun _ => true) true n 4 [c1] = xs[1]? := by have := hx 1 _ rfl; simpa [ocI, ocB, ocU] using this
  obtain ⟨y1, e1⟩ : ∃ y, xs[1]? = some y := ⟨xs[1], List.getElem?_eq_getElem (by omega)⟩
  rw [e1] at h1
  obtain ⟨z1, q1, _⟩ := DataW.trod_bool Try.underlying4 h1
  have h2 : DataW.trod enc Try.prog W 0 (fun _ => true) true n 3 [c2] = xs[2]? := by have := hx 2 _ rfl; simpa [ocI, ocB, ocU] using this
  obtain ⟨y2, e2⟩ : ∃ y, xs[2]? = some y := ⟨xs[2], List.getElem?_eq_getElem (by omega)⟩
  rw [e2] at h2
  obtain ⟨z2, q2, _, w2⟩ := DataW.trod_int Try.underlying3 h2
  have h3 : DataW.trod enc Try.prog W 0 (fun _ => true) true n 3 [c3] = xs[3]? := by have := hx 3 _ rfl; simpa [ocI, ocB, ocU] using this
  obtain ⟨y3, e3⟩ : ∃ y, xs[3]? = some y := ⟨xs[3], List.getElem?_eq_getElem (by omega)⟩
  rw [e3] at h3
  obtain ⟨z3, q3, _, w3⟩ := DataW.trod_int Try.underlying3 h3
  simp only [List.cons.injEq, and_true] at q0 q1 q2 q3
  subst q0
  subst q1
  subst q2
  subst q3
  exact ⟨⟨z0, z1, z2, z3⟩, rfl, bounds_i64 w0, bounds_i64 w2, bounds_i64 w3, trivial⟩
theorem open_Mv {H : Type} {enc : TypeId × Value → H} {W : World} {base : Nat} {v : Value} {d : DataW H} {p : List MemPlace}
    (hok : Value.okWide Try.prog W .any base 42 v) (h : DataW.Trod enc Try.prog W 0 (fun _ => true) true 42 v d p) : ∃ o : Mv, v = .agg o.cells.toArray ∧ o.ok := by
  obtain ⟨cs, rfl, hsz⟩ := okWide_struct Try.underlying42 hok
  obtain ⟨fuel, hf⟩ := h
  obtain ⟨o, e, hI⟩ := open_Mvc hf
  refine ⟨o, ?_, hI⟩
  simp only [Value.cells] at e
  congr 1
  exact Array.toList_inj.1 (by rw [e])
set_option maxRecDepth 100000 in
theorem open_MvL {H : Type} {enc : TypeId × Value → H} {W : World} {a : Option Addr} {len cap : Nat} {d : DataW H} {p : List MemPlace}
    (h : DataW.Trod enc Try.prog W 0 (fun _ => true) true 36 (.slice a len cap) d p) : ∃ l : List Mv, (∀ (k : Nat) (q : Mv), l[k]? = some q → q.ok ∧ ∃ b off, a = some ⟨b, off, none⟩ ∧ W.cell? ⟨b, off + k * 4, none⟩ = some (.int .i64 q.k) ∧ W.cell? ⟨b, off + k * 4 + 1, none⟩ = some (.bool q.t) ∧ W.cell? ⟨b, off + k * 4 + 2, none⟩ = some (.int .i64 q.x) ∧ W.cell? ⟨b, off + k * 4 + 3, none⟩ = some (.int .i64 q.y)) ∧ l.length = len ∧ (∀ N, (∀ elems spare, d = .slice elems spare → elems.length + spare.length ≤ N) → len ≤ N) := by
  obtain ⟨fuel, hf⟩ := h
  rcases Deep.open_slice Try.underlying36 hf with ⟨hcs, _⟩ | ⟨x, len', cap', m, n, D, Pl, hcs, _, hl, hm, hmm, hx, hel⟩
  · simp [Value.cells] at hcs
    obtain ⟨rfl, rfl, rfl⟩ := hcs
    exact ⟨[], fun k q hk => by simp at hk, rfl, fun _ _ => Nat.zero_le _⟩
  · simp [Value.cells] at hcs
    obtain ⟨rfl, rfl, rfl⟩ := hcs
    simp only [if_true] at hmm
    subst hmm
    simp only [Prod.mk.injEq] at hx
    have hb : (∀ N, (∀ elems spare, d = .slice elems spare → elems.length + spare.length ≤ N) → len ≤ N) := fun N hN => by
      have hs := hN _ _ hx.1
      simp only [List.length_map, List.length_range] at hs
      omega
    have hq : ∀ k, ∃ q : Mv, k < len → q.ok ∧ W.cells? 0 (x.add (k * 4)) 4 = some q.cells := fun k => by
      by_cases hk : k < len
      · obtain ⟨cs', h1, h2⟩ := hel k (by omega)
        rw [ocMv] at h1
        obtain ⟨q, e, h3⟩ := open_Mvc h2
        subst e
        exact ⟨q, fun _ => ⟨h3, h1⟩⟩
      · exact ⟨⟨0, false, 0, 0⟩, fun f => absurd f hk⟩
    obtain ⟨f, hf⟩ := Classical.axiomOfChoice hq
    refine ⟨(List.range len).map f, fun k q hk => ?_, by simp, hb⟩
    have hkl : k < len := by
      have := (List.getElem?_eq_some_iff.1 hk).1
      simpa using this
    have hfk : f k = q := by simpa [hkl] using hk
    obtain ⟨hv, h1⟩ := hf k hkl
    rw [hfk] at hv h1
    have hc := (World.cells?_some h1).2.2
    obtain ⟨g, off, sp⟩ := x
    have g0 := hc 0 (by simp [Mv.cells])
    have g1 := hc 1 (by simp [Mv.cells])
    have g2 := hc 2 (by simp [Mv.cells])
    have g3 := hc 3 (by simp [Mv.cells])
    have hs : sp = none := by
      obtain ⟨_, q1⟩ := hf 0 (by omega)
      have q0 := (World.cells?_some q1).2.2 0 (by simp [Mv.cells])
      simp [Addr.add] at q0
      exact World.cell?_spot q0
    subst hs
    have q0 : W.cell? ⟨g, off + k * 4, none⟩ = some (.int .i64 q.k) := by have := oadd g off (k * 4) 0; rw [Nat.add_zero] at this; rw [← this]; exact g0
    exact ⟨hv, g, off, rfl, q0, by rw [← oadd g off (k * 4) 1]; exact g1, by rw [← oadd g off (k * 4) 2]; exact g2, by rw [← oadd g off (k * 4) 3]; exact g3⟩
theorem obMv : Try.prog.bytesOf 42 = 32 := by kernel_rfl
end Go.Proofs.Ytoeimahlielklaa
