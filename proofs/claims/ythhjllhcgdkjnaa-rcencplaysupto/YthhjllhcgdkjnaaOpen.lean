/- What the readings of the arguments give: rows of bits, numbers; of no statement by themselves. -/
import Derived.Test.YthhjllhcgdkjnaaArgs
import Derived.ProofKit
import Derived.OpenShut
import Derived.ShutString
import Derived.ChangeOld
import Derived.SizedLaws
import Derived.Below
import Derived.Deep.Slices
namespace Go.Proofs.Ythhjllhcgdkjnaa
open Go.ChangeShapes Go.WideShapes Go.ChangeAt Go.RowKit
set_option linter.unusedVariables false

theorem cellsB : Try.prog.cellsOf 38 = 2 := by kernel_rfl
theorem cellsI : Try.prog.cellsOf 3 = 1 := by kernel_rfl
theorem cellsBool : Try.prog.cellsOf 4 = 1 := by kernel_rfl
theorem bytesB : Try.prog.bytesOf 38 = 16 := by kernel_rfl
theorem bytesW : Try.prog.bytesOf 26 = 4 := by kernel_rfl
theorem two_cells {cs : List Value} (h : cs.length = 2) : ∃ c0 c1, cs = [c0, c1] := by
  match cs, h with
  | [c0, c1], _ => exact ⟨c0, c1, rfl⟩

theorem open_bit {H : Type} {enc : TypeId × Value → H} {W : World} {fuel : Nat} {cs : List Value} {y : DataW H × List MemPlace}
    (hf : DataW.trod enc Try.prog W 0 (fun _ => true) true fuel 38 cs = some y) : ∃ i one, cs = [.int .i64 i, .bool one] ∧ I64 i := by
  obtain ⟨xs, n, _, rfl, hl, hlen, hx⟩ := DataW.trod_struct Try.underlying38 hf
  rw [cellsB] at hl
  obtain ⟨c0, c1, rfl⟩ := two_cells hl
  have h0 : DataW.trod enc Try.prog W 0 (fun _ => true) true n 3 [c0] = xs[0]? := by have := hx 0 _ rfl; simpa [cellsI] using this
  have h1 : DataW.trod enc Try.prog W 0 (fun _ => true) true n 4 [c1] = xs[1]? := by have := hx 1 _ rfl; simpa [cellsI, cellsBool] using this
  have hs : xs.length = 2 := by simpa using hlen
  obtain ⟨y0, e0⟩ : ∃ y, xs[0]? = some y := ⟨xs[0], List.getElem?_eq_getElem (by omega)⟩
  obtain ⟨y1, e1⟩ : ∃ y, xs[1]? = some y := ⟨xs[1], List.getElem?_eq_getElem (by omega)⟩
  rw [e0] at h0
  rw [e1] at h1
  obtain ⟨i, ei, _, wi⟩ := DataW.trod_int Try.underlying3 h0
  obtain ⟨one, eo, _⟩ := DataW.trod_bool Try.underlying4 h1
  simp only [List.cons.injEq, and_true] at ei eo
  subst ei eo
  have b0 := bounds_i64 wi
  exact ⟨i, one, rfl, by omega, by omega⟩

theorem addadd (b off i j : Nat) : ((⟨b, off, none⟩ : Addr).add i).add j = ⟨b, off + i + j, none⟩ := by rw [addk, addk]

set_option maxRecDepth 100000 in
theorem open_bits {H : Type} {enc : TypeId × Value → H} {W : World} {a : Option Addr} {len cap : Nat} {d : DataW H} {p : List MemPlace}
    (h : DataW.Trod enc Try.prog W 0 (fun _ => true) true 33 (.slice a len cap) d p) (hsz : ∀ elems spare, d = .slice elems spare → (elems.length + spare.length) * Try.prog.bytesOf 38 ≤ reachBytes) : Bits W a len ∧ len ≤ 8796093022208 := by
  obtain ⟨fuel, hf⟩ := h
  rcases Deep.open_slice Try.underlying33 hf with ⟨hcs, _⟩ | ⟨x, len', cap', m, n, D, Pl, hcs, _, hl, hm, hmm, hx, hel⟩
  · simp [Value.cells] at hcs
    obtain ⟨rfl, rfl, rfl⟩ := hcs
    exact ⟨fun k hk => by omega, by omega⟩
  · simp [Value.cells] at hcs
    obtain ⟨rfl, rfl, rfl⟩ := hcs
    simp only [if_true] at hmm
    subst hmm
    simp only [Prod.mk.injEq] at hx
    have hs := hsz _ _ hx.1
    rw [bytesB] at hs
    simp only [List.length_map, List.length_range, reachBytes] at hs
    refine ⟨fun k hk => ?_, by omega⟩
    obtain ⟨cs', h1, h2⟩ := hel k (by omega)
    rw [cellsB] at h1
    obtain ⟨i, one, e, hi⟩ := open_bit h2
    subst e
    have hc := (World.cells?_some h1).2.2
    obtain ⟨g, off, sp⟩ := x
    have g0 := hc 0 (by simp)
    have g1 := hc 1 (by simp)
    have hs : sp = none := by
      obtain ⟨cs0, q1, q2⟩ := hel 0 (by omega)
      rw [cellsB] at q1
      obtain ⟨i0, o0, e0, _⟩ := open_bit q2
      subst e0
      have q0 := (World.cells?_some q1).2.2 0 (by simp)
      simp [Addr.add] at q0
      exact World.cell?_spot q0
    subst hs
    have q0 : W.cell? ⟨g, off + k * 2, none⟩ = some (.int .i64 i) := by have := addadd g off (k * 2) 0; rw [Nat.add_zero] at this; rw [← this]; exact g0
    have q1 : W.cell? ⟨g, off + k * 2 + 1, none⟩ = some (.bool one) := by rw [← addadd g off (k * 2) 1]; exact g1
    exact ⟨g, off, rfl, i, one, q0, q1, hi⟩

theorem open_words {H : Type} {enc : TypeId × Value → H} {W : World} {a : Option Addr} {len cap : Nat} {d : DataW H} {p : List MemPlace}
    (h : DataW.Trod enc Try.prog W 0 (fun _ => true) true 22 (.slice a len cap) d p) (hsz : ∀ elems spare, d = .slice elems spare → (elems.length + spare.length) * Try.prog.bytesOf 26 ≤ reachBytes) : Words W a len ∧ len * 4 + 4096 ≤ 140737488355328 := by
  obtain ⟨fuel, hf⟩ := h
  rcases open_ints Try.underlying22 Try.underlying26 (by kernel_rfl) hf with ⟨hcs, _⟩ | ⟨x, l, c, zs, hcs, _, hl, hm, hz, hx, hcell, hwz⟩
  · simp [Value.cells] at hcs
    obtain ⟨rfl, rfl, rfl⟩ := hcs
    exact ⟨fun k hk => by omega, by omega⟩
  · simp [Value.cells] at hcs
    obtain ⟨rfl, rfl, rfl⟩ := hcs
    simp only [Prod.mk.injEq] at hx
    have hs := hsz _ _ hx.1
    simp only [if_true] at hz
    rw [bytesW] at hs
    simp only [lits, List.length_map, List.length_take, List.length_drop, reachBytes] at hs
    refine ⟨fun k hk => ?_, by omega⟩
    have hkz : k < zs.length := by omega
    have g := hcell k hkz
    have g0 := hcell 0 (by omega)
    obtain ⟨b, off, sp⟩ := x
    have hsp : sp = none := by
      simp [Addr.add] at g0
      exact World.cell?_spot g0
    subst hsp
    rw [addk] at g
    have hb := bounds_u32 (hwz zs[k] (List.getElem_mem hkz))
    refine ⟨b, off, rfl, zs[k].toNat, ?_, by omega⟩
    rw [show ((zs[k].toNat : Nat) : Int) = zs[k] by omega]
    simpa [List.getD, hkz] using g

theorem open_numbers {H : Type} {enc : TypeId × Value → H} {W : World} {a : Option Addr} {len cap : Nat} {d : DataW H} {p : List MemPlace}
    (h : DataW.Trod enc Try.prog W 0 (fun _ => true) true 23 (.slice a len cap) d p) : Ints W a len ∧ len ≤ 9223372036854775807 := by
  obtain ⟨fuel, hf⟩ := h
  rcases open_ints Try.underlying23 Try.underlying3 (by kernel_rfl) hf with ⟨hcs, _⟩ | ⟨x, l, c, zs, hcs, _, hl, hm, hz, hx, hcell, hwz⟩
  · simp [Value.cells] at hcs
    obtain ⟨rfl, rfl, rfl⟩ := hcs
    exact ⟨fun k hk => by omega, by omega⟩
  · simp [Value.cells] at hcs
    obtain ⟨rfl, rfl, rfl⟩ := hcs
    simp only [if_true] at hz
    refine ⟨fun k hk => ?_, by unfold maxLen at hm; omega⟩
    have hkz : k < zs.length := by omega
    have g := hcell k hkz
    have g0 := hcell 0 (by omega)
    obtain ⟨b, off, sp⟩ := x
    have hsp : sp = none := by
      simp [Addr.add] at g0
      exact World.cell?_spot g0
    subst hsp
    rw [addk] at g
    exact ⟨b, off, rfl, zs[k], by simpa [List.getD, hkz] using g⟩
end Go.Proofs.Ythhjllhcgdkjnaa
