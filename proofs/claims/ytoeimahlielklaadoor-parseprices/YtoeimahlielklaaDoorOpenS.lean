/- What the readings of the arguments give: distances, symbols, properties, lists of symbols; of no statement by themselves. -/
import Derived.Test.YtoeimahlielklaaDoorSj
import Derived.ProofKit
import Derived.OpenShut
import Derived.ShutString
import Derived.ChangeOld
import Derived.SizedLaws
import Derived.Below
import Derived.Deep.Slices
namespace Go.Proofs.YtoeimahlielklaaDoor
set_option maxRecDepth 20000
open Go.ChangeShapes Go.WideShapes Go.ChangeAt Go.RowKit
set_option linter.unusedVariables false
set_option linter.unusedSimpArgs false

theorem cellsIS : Tryd.prog.cellsOf 3 = 1 := by kernel_rfl
theorem cellsU8 : Tryd.prog.cellsOf 5 = 1 := by kernel_rfl
theorem cellsSy : Tryd.prog.cellsOf 24 = 4 := by kernel_rfl
theorem bytesSy : Tryd.prog.bytesOf 24 = 32 := by kernel_rfl
theorem addS (b off i j : Nat) : ((⟨b, off, none⟩ : Addr).add i).add j = ⟨b, off + i + j, none⟩ := by
  have h : ∀ (b off k : Nat), (⟨b, off, none⟩ : Addr).add k = ⟨b, off + k, none⟩ := fun b off k => by
    unfold Addr.add
    split
    · next e => simp [e]
    · rfl
  rw [h, h]
theorem four_cells {cs : List Value} (h : cs.length = 4) : ∃ c0 c1 c2 c3, cs = [c0, c1, c2, c3] := by
  match cs, h with
  | [c0, c1, c2, c3], _ => exact ⟨c0, c1, c2, c3, rfl⟩
/-- A symbol's cells. -/
def Sym.cells (y : Sym) : List Value := [.int .i64 y.k, .int .u8 y.y, .int .i64 y.l, .int .i64 y.d]
theorem open_sym {H : Type} {enc : TypeId × Value → H} {W : World} {fuel : Nat} {cs : List Value} {y : DataW H × List MemPlace}
    (hf : DataW.trod enc Tryd.prog W 0 (fun _ => true) true fuel 24 cs = some y) : ∃ o : Sym, cs = o.cells ∧ o.I := by
  obtain ⟨xs, n, _, rfl, hl, hlen, hx⟩ := DataW.trod_struct Tryd.underlying24 hf
  rw [cellsSy] at hl
  obtain ⟨c0, c1, c2, c3, rfl⟩ := four_cells hl
  have h0 : DataW.trod enc Tryd.prog W 0 (fun _ => true) true n 3 [c0] = xs[0]? := by have := hx 0 _ rfl; simpa [cellsIS] using this
  have h1 : DataW.trod enc Tryd.prog W 0 (fun _ => true) true n 5 [c1] = xs[1]? := by have := hx 1 _ rfl; simpa [cellsIS, cellsU8] using this
  have h2 : DataW.trod enc Tryd.prog W 0 (fun _ => true) true n 3 [c2] = xs[2]? := by have := hx 2 _ rfl; simpa [cellsIS] using this
  have h3 : DataW.trod enc Tryd.prog W 0 (fun _ => true) true n 3 [c3] = xs[3]? := by have := hx 3 _ rfl; simpa [cellsIS] using this
  have hs : xs.length = 4 := by simpa using hlen
  obtain ⟨y0, e0⟩ : ∃ y, xs[0]? = some y := ⟨xs[0], List.getElem?_eq_getElem (by omega)⟩
  rw [e0] at h0
  obtain ⟨y1, e1⟩ : ∃ y, xs[1]? = some y := ⟨xs[1], List.getElem?_eq_getElem (by omega)⟩
  rw [e1] at h1
  obtain ⟨y2, e2⟩ : ∃ y, xs[2]? = some y := ⟨xs[2], List.getElem?_eq_getElem (by omega)⟩
  rw [e2] at h2
  obtain ⟨y3, e3⟩ : ∃ y, xs[3]? = some y := ⟨xs[3], List.getElem?_eq_getElem (by omega)⟩
  rw [e3] at h3
  obtain ⟨z0, q0, _, w0⟩ := DataW.trod_int Tryd.underlying3 h0
  obtain ⟨z1, q1, _, w1⟩ := DataW.trod_int Tryd.underlying5 h1
  obtain ⟨z2, q2, _, w2⟩ := DataW.trod_int Tryd.underlying3 h2
  obtain ⟨z3, q3, _, w3⟩ := DataW.trod_int Tryd.underlying3 h3
  simp only [List.cons.injEq, and_true] at q0 q1 q2 q3
  subst q0 q1 q2 q3
  exact ⟨⟨z0, z1, z2, z3⟩, rfl, ⟨bounds_i64 w0, bounds_i64 w2, bounds_i64 w3, bounds_u8 w1⟩⟩
/-- A symbol that came in. -/
theorem open_symbol {H : Type} {enc : TypeId × Value → H} {W : World} {base : Nat} {v : Value} {d : DataW H} {p : List MemPlace}
    (hok : Value.okWide Tryd.prog W .any base 24 v) (h : DataW.Trod enc Tryd.prog W 0 (fun _ => true) true 24 v d p) : ∃ o : Sym, v = syv o ∧ o.I := by
  obtain ⟨cs, rfl, hsz⟩ := okWide_struct Tryd.underlying24 hok
  obtain ⟨fuel, hf⟩ := h
  obtain ⟨o, e, hI⟩ := open_sym hf
  refine ⟨o, ?_, hI⟩
  simp only [Value.cells] at e
  unfold syv
  congr 1
  exact Array.toList_inj.1 (by rw [e]; rfl)
/-- Four distances that came in. -/
theorem open_four {H : Type} {enc : TypeId × Value → H} {W : World} {base : Nat} {v : Value} {d : DataW H} {p : List MemPlace}
    (hok : Value.okWide Tryd.prog W .any base 34 v) (h : DataW.Trod enc Tryd.prog W 0 (fun _ => true) true 34 v d p) : ∃ a b c e : Int, v = .agg #[.int .i64 a, .int .i64 b, .int .i64 c, .int .i64 e] ∧ I64 a ∧ I64 b ∧ I64 c ∧ I64 e := by
  unfold Value.okWide at hok
  rw [Tryd.underlying34] at hok
  obtain ⟨cs, rfl, hsz, _⟩ := hok
  obtain ⟨fuel, hf⟩ := h
  obtain ⟨xs, m, rfl, hx, hlen, hn, hel⟩ := DataW.trod_array Tryd.underlying34 hf
  simp only [Value.cells] at hlen hel
  have hc4 : Tryd.prog.cellsOf 34 = 4 := by kernel_rfl
  obtain ⟨c0, c1, c2, c3, hcs⟩ := four_cells (hlen.trans hc4)
  rw [hcs] at hel
  have key : ∀ i u, i < 4 → [c0, c1, c2, c3][i]? = some u → ∃ z, u = .int .i64 z ∧ I64 z := by
    intro i u hi hu
    have h0 := hel i hi
    rw [cellsIS, Nat.mul_one] at h0
    obtain ⟨y, hy⟩ : ∃ y, xs[i]? = some y := ⟨xs[i]'(by omega), List.getElem?_eq_getElem _⟩
    rw [hy] at h0
    obtain ⟨z, e1, e2, hw⟩ := DataW.trod_int Tryd.underlying3 h0
    have h3 : (([c0, c1, c2, c3].drop i).take 1)[0]? = some (.int .i64 z) := by rw [e1]; rfl
    have h4 : [c0, c1, c2, c3][i]? = some (.int .i64 z) := by simpa using h3
    rw [hu] at h4
    injection h4 with h4
    exact ⟨z, h4, bounds_i64 hw⟩
  obtain ⟨z0, rfl, b0⟩ := key 0 c0 (by omega) rfl
  obtain ⟨z1, rfl, b1⟩ := key 1 c1 (by omega) rfl
  obtain ⟨z2, rfl, b2⟩ := key 2 c2 (by omega) rfl
  obtain ⟨z3, rfl, b3⟩ := key 3 c3 (by omega) rfl
  refine ⟨z0, z1, z2, z3, ?_, b0, b1, b2, b3⟩
  congr 1
  exact Array.toList_inj.1 (by rw [hcs])
set_option maxRecDepth 100000 in
/-- A list of symbols that came in. -/
theorem open_symsL {H : Type} {enc : TypeId × Value → H} {W : World} {a : Option Addr} {len cap : Nat} {d : DataW H} {p : List MemPlace}
    (h : DataW.Trod enc Tryd.prog W 0 (fun _ => true) true 22 (.slice a len cap) d p) : ∃ l : List Sym, SymL W a l ∧ l.length = len ∧ (∀ N, (∀ elems spare, d = .slice elems spare → elems.length + spare.length ≤ N) → len ≤ N) := by
  obtain ⟨fuel, hf⟩ := h
  rcases Deep.open_slice Tryd.underlying22 hf with ⟨hcs, _⟩ | ⟨x, len', cap', m, n, D, Pl, hcs, _, hl, hm, hmm, hx, hel⟩
  · simp [Value.cells] at hcs
    obtain ⟨rfl, rfl, rfl⟩ := hcs
    exact ⟨[], fun k q hk => by simp at hk, rfl, fun _ _ => Nat.zero_le _⟩
  · simp [Value.cells] at hcs
    obtain ⟨rfl, rfl, rfl⟩ := hcs
    simp only [if_true] at hmm
    subst hmm
    simp only [Prod.mk.injEq] at hx
    have hb : ∀ N, (∀ elems spare, d = .slice elems spare → elems.length + spare.length ≤ N) → len ≤ N := fun N hN => by
      have hs := hN _ _ hx.1
      simp only [List.length_map, List.length_range] at hs
      omega
    have hq : ∀ k, ∃ q : Sym, k < len → q.I ∧ W.cells? 0 (x.add (k * 4)) 4 = some q.cells := fun k => by
      by_cases hk : k < len
      · obtain ⟨cs', h1, h2⟩ := hel k (by omega)
        rw [cellsSy] at h1
        obtain ⟨q, e, h3⟩ := open_sym h2
        subst e
        exact ⟨q, fun _ => ⟨h3, h1⟩⟩
      · exact ⟨⟨0, 0, 0, 0⟩, fun f => absurd f hk⟩
    obtain ⟨f, hf⟩ := Classical.axiomOfChoice hq
    refine ⟨(List.range len).map f, fun k q hk => ?_, by simp, hb⟩
    have hkl : k < len := by
      have := (List.getElem?_eq_some_iff.1 hk).1
      simpa using this
    have hfk : f k = q := by simpa [hkl] using hk
    obtain ⟨hv, h1⟩ := hf k hkl
    rw [hfk] at hv h1
    have hc := (World.cells?_some h1).2.2
    obtain ⟨g, off, sp⟩ := x
    have g0 := hc 0 (by simp [Sym.cells])
    have g1 := hc 1 (by simp [Sym.cells])
    have g2 := hc 2 (by simp [Sym.cells])
    have g3 := hc 3 (by simp [Sym.cells])
    have hs : sp = none := by
      obtain ⟨_, q1⟩ := hf 0 (by omega)
      have q0 := (World.cells?_some q1).2.2 0 (by simp [Sym.cells])
      simp [Addr.add] at q0
      exact World.cell?_spot q0
    subst hs
    have q0 : W.cell? ⟨g, off + k * 4, none⟩ = some (.int .i64 q.k) := by have := addS g off (k * 4) 0; rw [Nat.add_zero] at this; rw [← this]; exact g0
    exact ⟨hv, g, off, rfl, q0, by rw [← addS g off (k * 4) 1]; exact g1, by rw [← addS g off (k * 4) 2]; exact g2, by rw [← addS g off (k * 4) 3]; exact g3⟩
end Go.Proofs.YtoeimahlielklaaDoor
