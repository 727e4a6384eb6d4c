/- What the readings of the arguments give; of no statement by themselves. -/
import Derived.Test.YtikokgngkagieaaDoorFrd
import Derived.ProofKit
import Derived.OpenShut
import Derived.ShutString
import Derived.ChangeOld
import Derived.SizedLaws
import Derived.Below
import Derived.Deep.Slices

namespace Go.Proofs.YtikokgngkagieaaDoor
open Go.ChangeShapes Go.WideShapes Go.ChangeAt Go.RowKit
set_option linter.unusedVariables false
set_option linter.unusedSimpArgs false
theorem ocI : Tryd.prog.cellsOf 3 = 1 := by kernel_rfl
theorem ocB : Tryd.prog.cellsOf 4 = 1 := by kernel_rfl
theorem ocU : Tryd.prog.cellsOf 5 = 1 := by kernel_rfl
theorem obI : Tryd.prog.bytesOf 3 = 8 := by kernel_rfl
theorem obU : Tryd.prog.bytesOf 5 = 1 := by kernel_rfl
theorem oadd (b off i j : Nat) : ((⟨b, off, none⟩ : Addr).add i).add j = ⟨b, off + i + j, none⟩ := by rw [addk, addk]
set_option maxRecDepth 100000 in
theorem open_bytes8 {H : Type} {enc : TypeId × Value → H} {W : World} {a : Option Addr} {len cap : Nat} {d : DataW H} {p : List MemPlace}
    (h : DataW.Trod enc Tryd.prog W 0 (fun _ => true) true 22 (.slice a len cap) d p) : ∃ bs : List Nat, Row8 W a len cap (nums bs) ∧ Rc.Dig bs ∧ len ≤ cap ∧ (a = none → len = 0 ∧ cap = 0) ∧ (∀ N, (∀ elems spare, d = .slice elems spare → elems.length + spare.length ≤ N) → len ≤ N ∧ cap ≤ N) := by
  obtain ⟨fuel, hf⟩ := h
  rcases open_ints Tryd.underlying22 Tryd.underlying5 (by kernel_rfl) hf with ⟨hcs, _⟩ | ⟨x, l, c, zs, hcs, _, hl, hm, hz, hx, hcell, hwz⟩
  · simp [Value.cells] at hcs
    obtain ⟨rfl, rfl, rfl⟩ := hcs
    exact ⟨[], ⟨rfl, .inl ⟨rfl, rfl, rfl⟩⟩, fun x hx => (List.not_mem_nil hx).elim, Nat.le_refl _, fun _ => ⟨rfl, rfl⟩, fun _ _ => ⟨Nat.zero_le _, Nat.zero_le _⟩⟩
  · simp [Value.cells] at hcs
    obtain ⟨rfl, rfl, rfl⟩ := hcs
    simp only [Prod.mk.injEq] at hx
    simp only [if_true] at hz
    have hN : ∀ N, (∀ elems spare, d = .slice elems spare → elems.length + spare.length ≤ N) → len ≤ N ∧ cap ≤ N := fun N hN => by
      have hs := hN _ _ hx.1
      simp only [lits, List.length_map, List.length_take, List.length_drop] at hs
      omega
    have hb : ∀ z ∈ zs, 0 ≤ z ∧ z < 256 := fun z hz => by
      have := bounds_u8 (hwz z hz)
      omega
    refine ⟨(zs.take len).map Int.toNat, ⟨?_, .inr ⟨x, rfl, fun j u hu => ?_⟩⟩, ?_, hl, (fun f => by cases f), hN⟩
    · rw [nums_len, List.length_map, List.length_take]; omega
    · simp only [nums, List.getElem?_map, Option.map_eq_some_iff] at hu
      obtain ⟨n1, ⟨n2, ⟨z, hz1, rfl⟩, rfl⟩, rfl⟩ := hu
      rw [List.getElem?_take] at hz1
      split at hz1
      · rename_i hj
        have hjz : j < zs.length := (List.getElem?_eq_some_iff.1 hz1).1
        have hze : zs[j] = z := (List.getElem?_eq_some_iff.1 hz1).2
        have g := hcell j hjz
        have := hb z (by rw [← hze]; exact List.getElem_mem hjz)
        rw [show ((z.toNat : Nat) : Int) = z by omega]
        rw [g, ← hze]
        simp [List.getD, hjz]
      · cases hz1
    · intro y hy
      simp only [List.mem_map] at hy
      obtain ⟨z, hz1, rfl⟩ := hy
      have := hb z (List.mem_of_mem_take hz1)
      omega
/-- A turn: the kind, the size in quarters, where it begins, and its bits. -/
structure TufV where
  k : Int
  q : Int
  at_ : Int
  m : Nat
def TufV.cells (o : TufV) : List Value := [.int .i64 o.k, .int .i64 o.q, .int .i64 o.at_, .int .u32 (o.m : Int)]
structure TufV.ok (o : TufV) : Prop where
  i1 : I64 o.k
  i2 : I64 o.q
  i3 : I64 o.at_
  m : o.m < 4294967296
theorem ocTuf : Tryd.prog.cellsOf 38 = 4 := by kernel_rfl
theorem ocU32 : Tryd.prog.cellsOf 36 = 1 := by kernel_rfl
theorem four_cells {cs : List Value} (h : cs.length = 4) : ∃ c0 c1 c2 c3, cs = [c0, c1, c2, c3] := by
  match cs, h with
  | [c0, c1, c2, c3], _ => exact ⟨c0, c1, c2, c3, rfl⟩
set_option maxRecDepth 100000 in
theorem open_tuf {H : Type} {enc : TypeId × Value → H} {W : World} {base : Nat} {v : Value} {d : DataW H} {p : List MemPlace}
    (hok : Value.okWide Tryd.prog W .any base 38 v) (h : DataW.Trod enc Tryd.prog W 0 (fun _ => true) true 38 v d p) : ∃ o : TufV, v = .agg o.cells.toArray ∧ o.ok := by
  obtain ⟨cs0, rfl, hsz⟩ := okWide_struct Tryd.underlying38 hok
  obtain ⟨fuel, hf⟩ := h
  obtain ⟨xs, n, _, e, hl, hlen, hx⟩ := DataW.trod_struct Tryd.underlying38 hf
  simp only [Value.cells] at hl hx
  rw [ocTuf] at hl
  obtain ⟨c0, c1, c2, c3, hc⟩ := four_cells hl
  rw [hc] at hx
  obtain rfl : cs0 = #[c0, c1, c2, c3] := Array.toList_inj.1 (by rw [hc])
  have h0 : DataW.trod enc Tryd.prog W 0 (fun _ => true) true n 3 [c0] = xs[0]? := by have := hx 0 _ rfl; simpa [ocI, ocU32] using this
  have h1 : DataW.trod enc Tryd.prog W 0 (fun _ => true) true n 3 [c1] = xs[1]? := by have := hx 1 _ rfl; simpa [ocI, ocU32] using this
  have h2 : DataW.trod enc Tryd.prog W 0 (fun _ => true) true n 3 [c2] = xs[2]? := by have := hx 2 _ rfl; simpa [ocI, ocU32] using this
  have h3 : DataW.trod enc Tryd.prog W 0 (fun _ => true) true n 36 [c3] = xs[3]? := by have := hx 3 _ rfl; simpa [ocI, ocU32] using this
  have hs : xs.length = 4 := by simpa using hlen
  obtain ⟨y0, e0⟩ : ∃ y, xs[0]? = some y := ⟨xs[0], List.getElem?_eq_getElem (by omega)⟩
  rw [e0] at h0
  obtain ⟨y1, e1⟩ : ∃ y, xs[1]? = some y := ⟨xs[1], List.getElem?_eq_getElem (by omega)⟩
  rw [e1] at h1
  obtain ⟨y2, e2⟩ : ∃ y, xs[2]? = some y := ⟨xs[2], List.getElem?_eq_getElem (by omega)⟩
  rw [e2] at h2
  obtain ⟨y3, e3⟩ : ∃ y, xs[3]? = some y := ⟨xs[3], List.getElem?_eq_getElem (by omega)⟩
  rw [e3] at h3
  obtain ⟨z0, q0, _, w0⟩ := DataW.trod_int Tryd.underlying3 h0
  obtain ⟨z1, q1, _, w1⟩ := DataW.trod_int Tryd.underlying3 h1
  obtain ⟨z2, q2, _, w2⟩ := DataW.trod_int Tryd.underlying3 h2
  obtain ⟨z3, q3, _, w3⟩ := DataW.trod_int Tryd.underlying36 h3
  simp only [List.cons.injEq, and_true] at q0 q1 q2 q3
  subst q0 q1 q2 q3
  obtain ⟨m0, m1⟩ := bounds_u32 w3
  refine ⟨⟨z0, z1, z2, z3.toNat⟩, ?_, bounds_i64 w0, bounds_i64 w1, bounds_i64 w2, by simp only; omega⟩
  simp only [TufV.cells]
  rw [Int.toNat_of_nonneg m0]
end Go.Proofs.YtikokgngkagieaaDoor
