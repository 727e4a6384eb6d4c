/- What the readings of headers give, up to the bulk; of no statement by themselves. -/
import Derived.Test.YtkncbanodpfccaaDoorOpenN
import Derived.Test.YtkncbanodpfccaaDoorRows
namespace Go.Proofs.YtkncbanodpfccaaDoor
set_option maxRecDepth 20000
open Go.ChangeShapes Go.WideShapes Go.ChangeAt Go.RowKit
set_option linter.unusedVariables false
set_option linter.unusedSimpArgs false
theorem bulk_posT {H : Type} : ∀ d : DataW H, 1 ≤ Rows.uptoBulk d
  | .lit l => by cases l <;> simp [Rows.uptoBulk]
  | .nil => by simp [Rows.uptoBulk]
  | .ptr d => by simp [Rows.uptoBulk]
  | .slice a b => by simp [Rows.uptoBulk]
  | .agg a => by simp [Rows.uptoBulk]
  | .iface _ d => by simp [Rows.uptoBulk]
  | .map a => by simp [Rows.uptoBulk]
  | .held _ => by simp [Rows.uptoBulk]
theorem bulk_lenT {H : Type} : ∀ l : List (DataW H), l.length ≤ Rows.uptoBulkAll l
  | [] => by simp [Rows.uptoBulkAll]
  | d :: r => by
    have h1 := bulk_posT d
    have h2 := bulk_lenT r
    simp only [Rows.uptoBulkAll, List.length_cons]
    omega
theorem bulk_sliceT {H : Type} {elems spare : List (DataW H)} (h : Rows.uptoBulk (DataW.slice elems spare) ≤ 1048576) : elems.length + spare.length ≤ 1048576 := by
  have h1 := bulk_lenT elems
  have h2 := bulk_lenT spare
  simp only [Rows.uptoBulk] at h
  omega
theorem bulk_memT {H : Type} : ∀ {l : List (DataW H)} {d : DataW H}, d ∈ l → Rows.uptoBulk d ≤ Rows.uptoBulkAll l
  | x :: r, d, h => by
    simp only [Rows.uptoBulkAll]
    rcases List.mem_cons.1 h with rfl | h
    · omega
    · have := bulk_memT h
      omega
theorem bulk_partT {H : Type} {parts : List (DataW H)} {d : DataW H} {i : Nat} (h : Rows.uptoBulk (DataW.agg parts) ≤ 1048576) (hp : parts[i]? = some d) : Rows.uptoBulk d ≤ 1048576 := by
  have h2 := bulk_memT (List.mem_of_getElem? hp)
  simp only [Rows.uptoBulk] at h
  omega
theorem bulk_elemT {H : Type} {elems spare : List (DataW H)} {d : DataW H} (h : Rows.uptoBulk (DataW.slice elems spare) ≤ 1048576) (hm : d ∈ elems) : Rows.uptoBulk d ≤ 1048576 := by
  have h2 := bulk_memT hm
  simp only [Rows.uptoBulk] at h
  omega
theorem ocSF : Tryd.prog.cellsOf 22 = 1 := by kernel_rfl
theorem ocHd : Tryd.prog.cellsOf 24 = 4 := by kernel_rfl
set_option maxRecDepth 100000 in
theorem open_flU {H : Type} {enc : TypeId × Value → H} {W : World} {fuel : Nat} {c : Value} {y : DataW H × List MemPlace}
    (hf : DataW.trod enc Tryd.prog W 0 (fun _ => true) true fuel 22 [c] = some y) (hB : Rows.uptoBulk y.1 ≤ 1048576) : ∃ a len cap, ∃ l : List FlV, c = .slice a len cap ∧ FlL W a l ∧ l.length = len ∧ len ≤ cap ∧ len ≤ 1048576 ∧ ∀ (k : Nat) (x : FlV), l[k]? = some x → x.n ≤ 1048576 := by
  rcases Deep.open_slice Tryd.underlying22 hf with ⟨hcs, _⟩ | ⟨x, len, cap, m, n, D, Pl, hcs, _, hl, hm, hmm, hx, hel⟩
  · simp at hcs
    subst hcs
    exact ⟨none, 0, 0, [], rfl, fun k q hk => by simp at hk, rfl, Nat.le_refl _, Nat.zero_le _, fun k q hk => by simp at hk⟩
  · simp at hcs
    subst hcs
    simp only [if_true] at hmm
    subst hmm
    subst hx
    simp only at hB
    have hb : len ≤ 1048576 := by
      have hs := bulk_sliceT hB
      simp only [List.length_map, List.length_range] at hs
      omega
    have hq : ∀ k, ∃ q : FlV, k < len → (q.ok W ∧ q.n ≤ 1048576) ∧ W.cells? 0 (x.add (k * 2)) 2 = some q.cells := fun k => by
      by_cases hk : k < len
      · obtain ⟨cs', h1, h2⟩ := hel k (by omega)
        rw [ocFl] at h1
        obtain ⟨q, e, h3, h4⟩ := open_fl h2 (N := 1048576) (by decide) (fun parts e s he hp => by
          have h5 := bulk_elemT hB (List.mem_map.2 ⟨k, List.mem_range.2 hk, he⟩)
          exact bulk_sliceT (bulk_partT h5 hp))
        subst e
        exact ⟨q, fun _ => ⟨⟨h3, h4⟩, h1⟩⟩
      · exact ⟨⟨0, none, 0, 0, []⟩, fun f => absurd f hk⟩
    obtain ⟨f, hf⟩ := Classical.axiomOfChoice hq
    have hat : ∀ (k : Nat) (q : FlV), ((List.range len).map f)[k]? = some q → k < len ∧ f k = q := fun k q hk => by
      have hkl : k < len := by
        have := (List.getElem?_eq_some_iff.1 hk).1
        simpa using this
      exact ⟨hkl, by simpa [hkl] using hk⟩
    refine ⟨some x, len, _, (List.range len).map f, rfl, fun k q hk => ?_, by simp, hl, hb, fun k q hk => ?_⟩
    · obtain ⟨hkl, hfk⟩ := hat k q hk
      obtain ⟨⟨hv, _⟩, h1⟩ := hf k hkl
      rw [hfk] at hv h1
      have hc := (World.cells?_some h1).2.2
      obtain ⟨g, off, sp⟩ := x
      have g0 := hc 0 (by simp [FlV.cells])
      have g1 := hc 1 (by simp [FlV.cells])
      have hs : sp = none := by
        obtain ⟨_, q1⟩ := hf 0 (by omega)
        have q0 := (World.cells?_some q1).2.2 0 (by simp [FlV.cells])
        simp [Addr.add] at q0
        exact World.cell?_spot q0
      subst hs
      have q0 : W.cell? ⟨g, off + k * 2, none⟩ = some (.int .u64 (q.id : Int)) := by have := oadd g off (k * 2) 0; rw [Nat.add_zero] at this; rw [← this]; exact g0
      exact ⟨hv, g, off, rfl, q0, by rw [← oadd g off (k * 2) 1]; exact g1⟩
    · obtain ⟨hkl, hfk⟩ := hat k q hk
      rw [← hfk]
      exact (hf k hkl).1.2
/-- A header in memory. -/
structure HedV where
  pk : Int
  sz : Int
  by_ : Int
  a : Option Addr
  n : Nat
  c : Nat
  l : List FlV
def HedV.cells (o : HedV) : List Value := [.int .i64 o.pk, .int .i64 o.sz, .slice o.a o.n o.c, .int .i64 o.by_]
structure HedV.ok (W : World) (o : HedV) : Prop where
  i1 : I64 o.pk
  i2 : I64 o.sz
  i3 : I64 o.by_
  fl : FlL W o.a o.l
  len : o.l.length = o.n
  cap : o.n ≤ o.c
  lim : o.n ≤ 1048576
  ps : ∀ (k : Nat) (x : FlV), o.l[k]? = some x → x.n ≤ 1048576
theorem four_cells {cs : List Value} (h : cs.length = 4) : ∃ c0 c1 c2 c3, cs = [c0, c1, c2, c3] := by
  match cs, h with
  | [c0, c1, c2, c3], _ => exact ⟨c0, c1, c2, c3, rfl⟩
set_option maxRecDepth 100000 in
theorem open_hedc {H : Type} {enc : TypeId × Value → H} {W : World} {fuel : Nat} {cs : List Value} {y : DataW H × List MemPlace}
    (hf : DataW.trod enc Tryd.prog W 0 (fun _ => true) true fuel 24 cs = some y) (hB : Rows.uptoBulk y.1 ≤ 1048576) : ∃ o : HedV, cs = o.cells ∧ o.ok W := by
  obtain ⟨xs, n, _, rfl, hl, hlen, hx⟩ := DataW.trod_struct Tryd.underlying24 hf
  rw [ocHd] at hl
  obtain ⟨c0, c1, c2, c3, rfl⟩ := four_cells hl
  have h0 : DataW.trod enc Tryd.prog W 0 (fun _ => true) true n 3 [c0] = xs[0]? := by have := hx 0 _ rfl; simpa [ocI, ocSF] using this
  have h1 : DataW.trod enc Tryd.prog W 0 (fun _ => true) true n 3 [c1] = xs[1]? := by have := hx 1 _ rfl; simpa [ocI, ocSF] using this
  have h2 : DataW.trod enc Tryd.prog W 0 (fun _ => true) true n 22 [c2] = xs[2]? := by have := hx 2 _ rfl; simpa [ocI, ocSF] using this
  have h3 : DataW.trod enc Tryd.prog W 0 (fun _ => true) true n 3 [c3] = xs[3]? := by have := hx 3 _ rfl; simpa [ocI, ocSF] using this
  have hs : xs.length = 4 := by simpa using hlen
  obtain ⟨y0, e0⟩ : ∃ y, xs[0]? = some y := ⟨xs[0], List.getElem?_eq_getElem (by omega)⟩
  rw [e0] at h0
  obtain ⟨y1, e1⟩ : ∃ y, xs[1]? = some y := ⟨xs[1], List.getElem?_eq_getElem (by omega)⟩
  rw [e1] at h1
  obtain ⟨y2, e2⟩ : ∃ y, xs[2]? = some y := ⟨xs[2], List.getElem?_eq_getElem (by omega)⟩
  rw [e2] at h2
  obtain ⟨y3, e3⟩ : ∃ y, xs[3]? = some y := ⟨xs[3], List.getElem?_eq_getElem (by omega)⟩
  rw [e3] at h3
  obtain ⟨z0, q0, _, w0⟩ := DataW.trod_int Tryd.underlying3 h0
  obtain ⟨z1, q1, _, w1⟩ := DataW.trod_int Tryd.underlying3 h1
  obtain ⟨z3, q3, _, w3⟩ := DataW.trod_int Tryd.underlying3 h3
  obtain ⟨a, len, cap, l, rfl, k1, k2, k3, k4, k5⟩ := open_flU h2 (bulk_partT (i := 2) hB (by rw [List.getElem?_map, e2]; rfl))
  simp only [List.cons.injEq, and_true] at q0 q1 q3
  subst q0 q1 q3
  exact ⟨⟨z0, z1, z3, a, len, cap, l⟩, rfl, ⟨bounds_i64 w0, bounds_i64 w1, bounds_i64 w3, k1, k2, k3, k4, k5⟩⟩
set_option maxRecDepth 100000 in
theorem open_hedU {H : Type} {enc : TypeId × Value → H} {W : World} {base : Nat} {v : Value} {d : DataW H} {p : List MemPlace}
    (hok : Value.okWide Tryd.prog W .any base 24 v) (h : DataW.Trod enc Tryd.prog W 0 (fun _ => true) true 24 v d p) (hB : Rows.uptoBulk d ≤ 1048576) : ∃ o : HedV, v = .agg o.cells.toArray ∧ o.ok W := by
  obtain ⟨cs, rfl, hsz⟩ := okWide_struct Tryd.underlying24 hok
  obtain ⟨fuel, hf⟩ := h
  obtain ⟨o, e, hI⟩ := open_hedc hf hB
  refine ⟨o, ?_, hI⟩
  simp only [Value.cells] at e
  congr 1
  exact Array.toList_inj.1 (by rw [e])
/-- A header, and bits of it. -/
structure TurV where
  h : HedV
  pad : Int
  at_ : Int
  m : Nat
def TurV.cells (o : TurV) : List Value := [.int .i64 o.h.pk, .int .i64 o.h.sz, .slice o.h.a o.h.n o.h.c, .int .i64 o.h.by_, .int .i64 o.pad, .int .i64 o.at_, .int .u32 (o.m : Int)]
structure TurV.ok (W : World) (o : TurV) : Prop where
  h : o.h.ok W
  i4 : I64 o.pad
  i5 : I64 o.at_
  m : o.m < 4294967296
theorem ocTu : Tryd.prog.cellsOf 40 = 7 := by kernel_rfl
theorem ocU32 : Tryd.prog.cellsOf 38 = 1 := by kernel_rfl
theorem seven_cells {cs : List Value} (h : cs.length = 7) : ∃ c0 c1 c2 c3 c4 c5 c6, cs = [c0, c1, c2, c3, c4, c5, c6] := by
  match cs, h with
  | [c0, c1, c2, c3, c4, c5, c6], _ => exact ⟨c0, c1, c2, c3, c4, c5, c6, rfl⟩
set_option maxRecDepth 100000 in
theorem open_turU {H : Type} {enc : TypeId × Value → H} {W : World} {base : Nat} {v : Value} {d : DataW H} {p : List MemPlace}
    (hok : Value.okWide Tryd.prog W .any base 40 v) (h : DataW.Trod enc Tryd.prog W 0 (fun _ => true) true 40 v d p) (hB : Rows.uptoBulk d ≤ 1048576) : ∃ o : TurV, v = .agg o.cells.toArray ∧ o.ok W := by
  obtain ⟨cs0, rfl, hsz⟩ := okWide_struct Tryd.underlying40 hok
  obtain ⟨fuel, hf⟩ := h
  obtain ⟨xs, n, _, e, hl, hlen, hx⟩ := DataW.trod_struct Tryd.underlying40 hf
  simp only [Value.cells] at hl hx
  rw [ocTu] at hl
  obtain ⟨c0, c1, c2, c3, c4, c5, c6, hc⟩ := seven_cells hl
  rw [hc] at hx
  obtain rfl : cs0 = #[c0, c1, c2, c3, c4, c5, c6] := Array.toList_inj.1 (by rw [hc])
  have h0 : DataW.trod enc Tryd.prog W 0 (fun _ => true) true n 24 [c0, c1, c2, c3] = xs[0]? := by have := hx 0 _ rfl; simpa [ocI, ocHd, ocU32] using this
  have h1 : DataW.trod enc Tryd.prog W 0 (fun _ => true) true n 3 [c4] = xs[1]? := by have := hx 1 _ rfl; simpa [ocI, ocHd, ocU32] using this
  have h2 : DataW.trod enc Tryd.prog W 0 (fun _ => true) true n 3 [c5] = xs[2]? := by have := hx 2 _ rfl; simpa [ocI, ocHd, ocU32] using this
  have h3 : DataW.trod enc Tryd.prog W 0 (fun _ => true) true n 38 [c6] = xs[3]? := by have := hx 3 _ rfl; simpa [ocI, ocHd, ocU32] using this
  have hs : xs.length = 4 := by simpa using hlen
  obtain ⟨y0, e0⟩ : ∃ y, xs[0]? = some y := ⟨xs[0], List.getElem?_eq_getElem (by omega)⟩
  rw [e0] at h0
  obtain ⟨y1, e1⟩ : ∃ y, xs[1]? = some y := ⟨xs[1], List.getElem?_eq_getElem (by omega)⟩
  rw [e1] at h1
  obtain ⟨y2, e2⟩ : ∃ y, xs[2]? = some y := ⟨xs[2], List.getElem?_eq_getElem (by omega)⟩
  rw [e2] at h2
  obtain ⟨y3, e3⟩ : ∃ y, xs[3]? = some y := ⟨xs[3], List.getElem?_eq_getElem (by omega)⟩
  rw [e3] at h3
  obtain ⟨z1, q1, _, w1⟩ := DataW.trod_int Tryd.underlying3 h1
  obtain ⟨z2, q2, _, w2⟩ := DataW.trod_int Tryd.underlying3 h2
  obtain ⟨z3, q3, _, w3⟩ := DataW.trod_int Tryd.underlying38 h3
  simp only [Prod.mk.injEq] at e
  rw [e.1] at hB
  obtain ⟨o, ho, hk⟩ := open_hedc h0 (bulk_partT (i := 0) hB (by rw [List.getElem?_map, e0]; rfl))
  simp only [List.cons.injEq, and_true, HedV.cells] at q1 q2 q3 ho
  obtain ⟨rfl, rfl, rfl, rfl⟩ := ho
  subst q1 q2 q3
  obtain ⟨m0, m1⟩ := bounds_u32 w3
  refine ⟨⟨o, z1, z2, z3.toNat⟩, ?_, hk, bounds_i64 w1, bounds_i64 w2, by simp only; omega⟩
  simp only [TurV.cells]
  rw [Int.toNat_of_nonneg m0]
end Go.Proofs.YtkncbanodpfccaaDoor
