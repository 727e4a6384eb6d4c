/- What the readings of the arguments give; of no statement by themselves. -/
import Derived.Test.YtehfcfpbjenmjaaDoorIxq
import Derived.ProofKit
import Derived.OpenShut
import Derived.ShutString
import Derived.ChangeOld
import Derived.SizedLaws
import Derived.Below
import Derived.Deep.Slices

namespace Go.Proofs.YtehfcfpbjenmjaaDoor
open Go.ChangeShapes Go.WideShapes Go.ChangeAt Go.RowKit
set_option linter.unusedVariables false
set_option linter.unusedSimpArgs false
theorem ocI : Tryd.prog.cellsOf 3 = 1 := by kernel_rfl
theorem ocB : Tryd.prog.cellsOf 4 = 1 := by kernel_rfl
theorem ocU : Tryd.prog.cellsOf 5 = 1 := by kernel_rfl
theorem obI : Tryd.prog.bytesOf 3 = 8 := by kernel_rfl
theorem obU : Tryd.prog.bytesOf 5 = 1 := by kernel_rfl
theorem oadd (b off i j : Nat) : ((⟨b, off, none⟩ : Addr).add i).add j = ⟨b, off + i + j, none⟩ := by rw [addk, addk]
theorem open_intsL0 {H : Type} {enc : TypeId × Value → H} {W : World} {a : Option Addr} {len cap : Nat} {d : DataW H} {p : List MemPlace}
    (h : DataW.Trod enc Tryd.prog W 0 (fun _ => true) true 38 (.slice a len cap) d p) : ∃ l : List Int, (∀ (k : Nat) (x : Int), l[k]? = some x → ∃ b off, a = some ⟨b, off, none⟩ ∧ W.cell? ⟨b, off + k, none⟩ = some (.int .i64 x)) ∧ (∀ i ∈ l, I64 i) ∧ l.length = len ∧ len ≤ cap ∧ (a = none → len = 0 ∧ cap = 0) ∧ (∀ N, (∀ elems spare, d = .slice elems spare → elems.length + spare.length ≤ N) → len ≤ N) := by
  obtain ⟨fuel, hf⟩ := h
  rcases Deep.open_slice1 Tryd.underlying38 ocI hf with ⟨hcs, _⟩ | ⟨x, len', cap', m, n, V, D, Pl, hcs, _, hl, hm, hmm, hx, hel⟩
  · simp [Value.cells] at hcs
    obtain ⟨rfl, rfl, rfl⟩ := hcs
    exact ⟨[], fun k q hk => by simp at hk, fun i hi => by simp at hi, rfl, Nat.le_refl _, (fun _ => ⟨rfl, rfl⟩), fun _ _ => Nat.zero_le _⟩
  · simp [Value.cells] at hcs
    obtain ⟨rfl, rfl, rfl⟩ := hcs
    simp only [if_true] at hmm
    subst hmm
    simp only [Prod.mk.injEq] at hx
    have hb : (∀ N, (∀ elems spare, d = .slice elems spare → elems.length + spare.length ≤ N) → len ≤ N) := fun N hN => by
      have hs := hN _ _ hx.1
      simp only [List.length_map, List.length_range] at hs
      omega
    have hq : ∀ k, ∃ q : Int, k < len → W.cell? (x.add k) = some (.int .i64 q) ∧ I64 q := fun k => by
      by_cases hk : k < len
      · obtain ⟨h1, h2⟩ := hel k (by omega)
        obtain ⟨z0, q0, _, w0⟩ := DataW.trod_int Tryd.underlying3 h2
        simp only [List.cons.injEq, and_true] at q0
        exact ⟨z0, fun _ => ⟨by rw [← q0]; exact h1, (bounds_i64 w0).1, (bounds_i64 w0).2⟩⟩
      · exact ⟨0, fun f => absurd f hk⟩
    obtain ⟨f, hf⟩ := Classical.axiomOfChoice hq
    refine ⟨(List.range len).map f, fun k q hk => ?_, fun i hi => by
      simp only [List.mem_map, List.mem_range] at hi
      obtain ⟨k, hk, rfl⟩ := hi
      exact (hf k hk).2, by simp, hl, (fun f => by cases f), hb⟩
    have hkl : k < len := by
      have := (List.getElem?_eq_some_iff.1 hk).1
      simpa using this
    have hfk : f k = q := by simpa [hkl] using hk
    have h1 := (hf k hkl).1
    rw [hfk] at h1
    obtain ⟨g, off, sp⟩ := x
    have hs : sp = none := by
      have q1 := (hf 0 (by omega)).1
      simp [Addr.add] at q1
      exact World.cell?_spot q1
    subst hs
    rw [addk] at h1
    exact ⟨g, off, rfl, h1⟩
set_option maxRecDepth 100000 in
theorem open_bytes8 {H : Type} {enc : TypeId × Value → H} {W : World} {a : Option Addr} {len cap : Nat} {d : DataW H} {p : List MemPlace}
    (h : DataW.Trod enc Tryd.prog W 0 (fun _ => true) true 22 (.slice a len cap) d p) : ∃ bs : List Nat, Row8 W a len cap (nums bs) ∧ Rc.Dig bs ∧ len ≤ cap ∧ (a = none → len = 0 ∧ cap = 0) ∧ (∀ N, (∀ elems spare, d = .slice elems spare → elems.length + spare.length ≤ N) → len ≤ N ∧ cap ≤ N) := by
  obtain ⟨fuel, hf⟩ := h
  rcases open_ints Tryd.underlying22 Tryd.underlying5 (by kernel_rfl) hf with ⟨hcs, _⟩ | ⟨x, l, c, zs, hcs, _, hl, hm, hz, hx, hcell, hwz⟩
  · simp [Value.cells] at hcs
    obtain ⟨rfl, rfl, rfl⟩ := hcs
    exact ⟨[], ⟨rfl, .inl ⟨rfl, rfl, rfl⟩⟩, fun x hx => (List.not_mem_nil hx).elim, Nat.le_refl _, fun _ => ⟨rfl, rfl⟩, fun _ _ => ⟨Nat.zero_le _, Nat.zero_le _⟩⟩
  · simp [Value.cells] at hcs
    obtain ⟨rfl, rfl, rfl⟩ := hcs
    simp only [Prod.mk.injEq] at hx
    simp only [if_true] at hz
    have hN : ∀ N, (∀ elems spare, d = .slice elems spare → elems.length + spare.length ≤ N) → len ≤ N ∧ cap ≤ N := fun N hN => by
      have hs := hN _ _ hx.1
      simp only [lits, List.length_map, List.length_take, List.length_drop] at hs
      omega
    have hb : ∀ z ∈ zs, 0 ≤ z ∧ z < 256 := fun z hz => by
      have := bounds_u8 (hwz z hz)
      omega
    refine ⟨(zs.take len).map Int.toNat, ⟨?_, .inr ⟨x, rfl, fun j u hu => ?_⟩⟩, ?_, hl, (fun f => by cases f), hN⟩
    · rw [nums_len, List.length_map, List.length_take]; omega
    · simp only [nums, List.getElem?_map, Option.map_eq_some_iff] at hu
      obtain ⟨n1, ⟨n2, ⟨z, hz1, rfl⟩, rfl⟩, rfl⟩ := hu
      rw [List.getElem?_take] at hz1
      split at hz1
      · rename_i hj
        have hjz : j < zs.length := (List.getElem?_eq_some_iff.1 hz1).1
        have hze : zs[j] = z := (List.getElem?_eq_some_iff.1 hz1).2
        have g := hcell j hjz
        have := hb z (by rw [← hze]; exact List.getElem_mem hjz)
        rw [show ((z.toNat : Nat) : Int) = z by omega]
        rw [g, ← hze]
        simp [List.getD, hjz]
      · cases hz1
    · intro y hy
      simp only [List.mem_map] at hy
      obtain ⟨z, hz1, rfl⟩ := hy
      have := hb z (List.mem_of_mem_take hz1)
      omega
theorem ocRec : Tryd.prog.cellsOf 43 = 2 := by kernel_rfl
/-- Its numbers are within their kinds. -/
def Rec.ok (o : Rec) : Prop := I64 o.u ∧ I64 o.s ∧ True
theorem Rec_cut {cs : List Value} (h : cs.length = 2) : ∃ c0 c1, cs = [c0, c1] := by
  match cs, h with
  | [c0, c1], _ => exact ⟨c0, c1, rfl⟩
theorem open_Recc {H : Type} {enc : TypeId × Value → H} {W : World} {fuel : Nat} {cs : List Value} {y : DataW H × List MemPlace}
    (hf : DataW.trod enc Tryd.prog W 0 (fun _ => true) true fuel 43 cs = some y) : ∃ o : Rec, cs = o.cells ∧ o.ok := by
  obtain ⟨xs, n, _, rfl, hl, hlen, hx⟩ := DataW.trod_struct Tryd.underlying43 hf
  rw [ocRec] at hl
  obtain ⟨c0, c1, rfl⟩ := Rec_cut hl
  have hs : xs.length = 2 := by simpa using hlen
  have h0 : DataW.trod enc Tryd.prog W 0 (fun _ => true) true n 3 [c0] = xs[0]? := by have := hx 0 _ rfl; simpa [ocI, ocB, ocU] using this
  obtain ⟨y0, e0⟩ : ∃ y, xs[0]? = some y := ⟨xs[0], List.getElem?_eq_getElem (by omega)⟩
  rw [e0] at h0
  obtain ⟨z0, q0, _, w0⟩ := DataW.trod_int Tryd.underlying3 h0
  have h1 : DataW.trod enc Tryd.prog W 0 (fun _ => true) true n 3 [c1] = xs[1]? := by have := hx 1 _ rfl; simpa [ocI, ocB, ocU] using this
  obtain ⟨y1, e1⟩ : ∃ y, xs[1]? = some y := ⟨xs[1], List.getElem?_eq_getElem (by omega)⟩
  rw [e1] at h1
  obtain ⟨z1, q1, _, w1⟩ := DataW.trod_int Tryd.underlying3 h1
  simp only [List.cons.injEq, and_true] at q0 q1
  subst q0
  subst q1
  exact ⟨⟨z0, z1⟩, rfl, bounds_i64 w0, bounds_i64 w1, trivial⟩
set_option maxRecDepth 100000 in
theorem open_RecL0 {H : Type} {enc : TypeId × Value → H} {W : World} {a : Option Addr} {len cap : Nat} {d : DataW H} {p : List MemPlace}
    (h : DataW.Trod enc Tryd.prog W 0 (fun _ => true) true 23 (.slice a len cap) d p) : ∃ l : List Rec, (∀ (k : Nat) (q : Rec), l[k]? = some q → q.ok ∧ ∃ b off, a = some ⟨b, off, none⟩ ∧ W.cell? ⟨b, off + k * 2, none⟩ = some (.int .i64 q.u) ∧ W.cell? ⟨b, off + k * 2 + 1, none⟩ = some (.int .i64 q.s)) ∧ l.length = len ∧ len ≤ cap ∧ (a = none → len = 0 ∧ cap = 0) ∧ (∀ N, (∀ elems spare, d = .slice elems spare → elems.length + spare.length ≤ N) → len ≤ N) := by
  obtain ⟨fuel, hf⟩ := h
  rcases Deep.open_slice Tryd.underlying23 hf with ⟨hcs, _⟩ | ⟨x, len', cap', m, n, D, Pl, hcs, _, hl, hm, hmm, hx, hel⟩
  · simp [Value.cells] at hcs
    obtain ⟨rfl, rfl, rfl⟩ := hcs
    exact ⟨[], fun k q hk => by simp at hk, rfl, Nat.le_refl _, (fun _ => ⟨rfl, rfl⟩), fun _ _ => Nat.zero_le _⟩
  · simp [Value.cells] at hcs
    obtain ⟨rfl, rfl, rfl⟩ := hcs
    simp only [if_true] at hmm
    subst hmm
    simp only [Prod.mk.injEq] at hx
    have hb : (∀ N, (∀ elems spare, d = .slice elems spare → elems.length + spare.length ≤ N) → len ≤ N) := fun N hN => by
      have hs := hN _ _ hx.1
      simp only [List.length_map, List.length_range] at hs
      omega
    have hq : ∀ k, ∃ q : Rec, k < len → q.ok ∧ W.cells? 0 (x.add (k * 2)) 2 = some q.cells := fun k => by
      by_cases hk : k < len
      · obtain ⟨cs', h1, h2⟩ := hel k (by omega)
        rw [ocRec] at h1
        obtain ⟨q, e, h3⟩ := open_Recc h2
        subst e
        exact ⟨q, fun _ => ⟨h3, h1⟩⟩
      · exact ⟨⟨0, 0⟩, fun f => absurd f hk⟩
    obtain ⟨f, hf⟩ := Classical.axiomOfChoice hq
    refine ⟨(List.range len).map f, fun k q hk => ?_, by simp, hl, (fun f => by cases f), hb⟩
    have hkl : k < len := by
      have := (List.getElem?_eq_some_iff.1 hk).1
      simpa using this
    have hfk : f k = q := by simpa [hkl] using hk
    obtain ⟨hv, h1⟩ := hf k hkl
    rw [hfk] at hv h1
    have hc := (World.cells?_some h1).2.2
    obtain ⟨g, off, sp⟩ := x
    have g0 := hc 0 (by simp [Rec.cells])
    have g1 := hc 1 (by simp [Rec.cells])
    have hs : sp = none := by
      obtain ⟨_, q1⟩ := hf 0 (by omega)
      have q0 := (World.cells?_some q1).2.2 0 (by simp [Rec.cells])
      simp [Addr.add] at q0
      exact World.cell?_spot q0
    subst hs
    have q0 : W.cell? ⟨g, off + k * 2, none⟩ = some (.int .i64 q.u) := by have := oadd g off (k * 2) 0; rw [Nat.add_zero] at this; rw [← this]; exact g0
    exact ⟨hv, g, off, rfl, q0, by rw [← oadd g off (k * 2) 1]; exact g1⟩
theorem rc_from {W : World} {a : Option Addr} {len cap : Nat} {l : List Rec} (h : ∀ (k : Nat) (q : Rec), l[k]? = some q → ∃ b off, a = some ⟨b, off, none⟩ ∧ W.cell? ⟨b, off + k * 2, none⟩ = some (.int .i64 q.u) ∧ W.cell? ⟨b, off + k * 2 + 1, none⟩ = some (.int .i64 q.s)) (hl : l.length = len) (h0 : a = none → len = 0 ∧ cap = 0) : From W a len cap 2 (rcs l) := by
  refine ⟨by rw [rcs_len, hl], ?_⟩
  cases a with
  | none => exact .inl ⟨rfl, (h0 rfl).1, (h0 rfl).2⟩
  | some x =>
    refine .inr ⟨x, rfl, fun j u hu => ?_⟩
    have hj := (List.getElem?_eq_some_iff.1 hu).1
    rw [rcs_len] at hj
    have hk : j / 2 < l.length := by omega
    have e := List.getElem?_eq_getElem hk
    obtain ⟨a0, a1⟩ := rcs_at l (j / 2) _ e
    obtain ⟨b, off, hx, c0, c1⟩ := h (j / 2) _ e
    simp only [Option.some.injEq] at hx
    subst hx
    rw [addk]
    by_cases hp : j % 2 = 0
    · have ej : j = j / 2 * 2 := by omega
      rw [ej, a0] at hu
      simp only [Option.some.injEq] at hu
      rw [ej, c0, hu]
    · have ej : j = j / 2 * 2 + 1 := by omega
      rw [ej, a1] at hu
      simp only [Option.some.injEq] at hu
      rw [ej, ← Nat.add_assoc, c1, hu]
theorem open_RecL {H : Type} {enc : TypeId × Value → H} {W : World} {a : Option Addr} {len cap : Nat} {d : DataW H} {p : List MemPlace}
    (h : DataW.Trod enc Tryd.prog W 0 (fun _ => true) true 23 (.slice a len cap) d p) : ∃ l : List Rec, RcF W a len cap l ∧ l.length = len ∧ (∀ N, (∀ elems spare, d = .slice elems spare → elems.length + spare.length ≤ N) → len ≤ N) := by
  obtain ⟨l, hb, hl, hc, h0, hN⟩ := open_RecL0 h
  exact ⟨l, ⟨rc_from (fun k q hk => (hb k q hk).2) hl h0, hl, hc, fun k q hk => ⟨(hb k q hk).1.1, (hb k q hk).1.2.1⟩⟩, hl, hN⟩
theorem open_IntL {H : Type} {enc : TypeId × Value → H} {W : World} {a : Option Addr} {len cap : Nat} {d : DataW H} {p : List MemPlace}
    (h : DataW.Trod enc Tryd.prog W 0 (fun _ => true) true 38 (.slice a len cap) d p) : ∃ l : List Int, InF W a len cap l ∧ l.length = len ∧ (∀ N, (∀ elems spare, d = .slice elems spare → elems.length + spare.length ≤ N) → len ≤ N) := by
  obtain ⟨l, hb, hi, hl, hc, h0, hN⟩ := open_intsL0 h
  refine ⟨l, ⟨⟨by rw [ins_len, hl, Nat.mul_one], ?_⟩, hl, fun k x hk => hi x (List.mem_of_getElem? hk)⟩, hl, hN⟩
  cases a with
  | none => exact .inl ⟨rfl, (h0 rfl).1, (h0 rfl).2⟩
  | some x =>
    refine .inr ⟨x, rfl, fun j u hu => ?_⟩
    unfold ins at hu
    rw [List.getElem?_map] at hu
    cases e : l[j]? with
    | none => rw [e] at hu; simp at hu
    | some z =>
      rw [e] at hu
      simp only [Option.map_some, Option.some.injEq] at hu
      subst hu
      obtain ⟨b, off, hx, c0⟩ := hb j z e
      simp only [Option.some.injEq] at hx
      subst hx
      rw [addk]
      exact c0
theorem obRc : Tryd.prog.bytesOf 43 = 16 := by kernel_rfl
/-- A burst: where it begins, and its bits. -/
structure BstV where
  at_ : Int
  m : Nat
def BstV.cells (o : BstV) : List Value := [.int .i64 o.at_, .int .u32 (o.m : Int)]
structure BstV.ok (o : BstV) : Prop where
  i5 : I64 o.at_
  m : o.m < 4294967296
theorem ocBst : Tryd.prog.cellsOf 34 = 2 := by kernel_rfl
theorem ocU32 : Tryd.prog.cellsOf 32 = 1 := by kernel_rfl
theorem two_cells {cs : List Value} (h : cs.length = 2) : ∃ c0 c1, cs = [c0, c1] := by
  match cs, h with
  | [c0, c1], _ => exact ⟨c0, c1, rfl⟩
set_option maxRecDepth 100000 in
theorem open_bst {H : Type} {enc : TypeId × Value → H} {W : World} {base : Nat} {v : Value} {d : DataW H} {p : List MemPlace}
    (hok : Value.okWide Tryd.prog W .any base 34 v) (h : DataW.Trod enc Tryd.prog W 0 (fun _ => true) true 34 v d p) : ∃ o : BstV, v = .agg o.cells.toArray ∧ o.ok := by
  obtain ⟨cs0, rfl, hsz⟩ := okWide_struct Tryd.underlying34 hok
  obtain ⟨fuel, hf⟩ := h
  obtain ⟨xs, n, _, e, hl, hlen, hx⟩ := DataW.trod_struct Tryd.underlying34 hf
  simp only [Value.cells] at hl hx
  rw [ocBst] at hl
  obtain ⟨c0, c1, hc⟩ := two_cells hl
  rw [hc] at hx
  obtain rfl : cs0 = #[c0, c1] := Array.toList_inj.1 (by rw [hc])
  have h0 : DataW.trod enc Tryd.prog W 0 (fun _ => true) true n 3 [c0] = xs[0]? := by have := hx 0 _ rfl; simpa [ocI, ocU32] using this
  have h1 : DataW.trod enc Tryd.prog W 0 (fun _ => true) true n 32 [c1] = xs[1]? := by have := hx 1 _ rfl; simpa [ocI, ocU32] using this
  have hs : xs.length = 2 := by simpa using hlen
  obtain ⟨y0, e0⟩ : ∃ y, xs[0]? = some y := ⟨xs[0], List.getElem?_eq_getElem (by omega)⟩
  rw [e0] at h0
  obtain ⟨y1, e1⟩ : ∃ y, xs[1]? = some y := ⟨xs[1], List.getElem?_eq_getElem (by omega)⟩
  rw [e1] at h1
  obtain ⟨z0, q0, _, w0⟩ := DataW.trod_int Tryd.underlying3 h0
  obtain ⟨z1, q1, _, w1⟩ := DataW.trod_int Tryd.underlying32 h1
  simp only [List.cons.injEq, and_true] at q0 q1
  subst q0 q1
  obtain ⟨m0, m1⟩ := bounds_u32 w1
  refine ⟨⟨z0, z1.toNat⟩, ?_, bounds_i64 w0, by simp only; omega⟩
  simp only [BstV.cells]
  rw [Int.toNat_of_nonneg m0]
end Go.Proofs.YtehfcfpbjenmjaaDoor
