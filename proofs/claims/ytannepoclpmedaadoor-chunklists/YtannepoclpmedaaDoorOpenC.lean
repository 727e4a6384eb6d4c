/- What the readings of the arguments give; of no statement by themselves. -/
import Derived.Test.YtannepoclpmedaaDoorCs

import Derived.ProofKit
import Derived.OpenShut
import Derived.ShutString
import Derived.ChangeOld
import Derived.SizedLaws
import Derived.Below
import Derived.Deep.Slices
namespace Go.Proofs.YtannepoclpmedaaDoor
set_option maxRecDepth 20000
open Go.ChangeShapes Go.WideShapes Go.ChangeAt Go.RowKit
set_option linter.unusedVariables false
set_option linter.unusedSimpArgs false
theorem ocI : Tryd.prog.cellsOf 3 = 1 := by kernel_rfl
theorem ocB : Tryd.prog.cellsOf 4 = 1 := by kernel_rfl
theorem ocU : Tryd.prog.cellsOf 5 = 1 := by kernel_rfl
theorem obI : Tryd.prog.bytesOf 3 = 8 := by kernel_rfl
theorem obU : Tryd.prog.bytesOf 5 = 1 := by kernel_rfl
theorem oadd (b off i j : Nat) : ((⟨b, off, none⟩ : Addr).add i).add j = ⟨b, off + i + j, none⟩ := by rw [addk, addk]
theorem open_bytes8 {H : Type} {enc : TypeId × Value → H} {W : World} {a : Option Addr} {len cap : Nat} {d : DataW H} {p : List MemPlace}
    (h : DataW.Trod enc Tryd.prog W 0 (fun _ => true) true 26 (.slice a len cap) d p) : ∃ bs : List Nat, Row8 W a len cap (nums bs) ∧ Rc.Dig bs ∧ len ≤ cap ∧ (a = none → len = 0 ∧ cap = 0) ∧ (∀ N, (∀ elems spare, d = .slice elems spare → elems.length + spare.length ≤ N) → len ≤ N ∧ cap ≤ N) := by
  obtain ⟨fuel, hf⟩ := h
  rcases open_ints Tryd.underlying26 Tryd.underlying5 (by kernel_rfl) hf with ⟨hcs, _⟩ | ⟨x, l, c, zs, hcs, _, hl, hm, hz, hx, hcell, hwz⟩
  · simp [Value.cells] at hcs
    obtain ⟨rfl, rfl, rfl⟩ := hcs
    exact ⟨[], ⟨rfl, .inl ⟨rfl, rfl, rfl⟩⟩, fun x hx => (List.not_mem_nil hx).elim, Nat.le_refl _, fun _ => ⟨rfl, rfl⟩, fun _ _ => ⟨Nat.zero_le _, Nat.zero_le _⟩⟩
  · simp [Value.cells] at hcs
    obtain ⟨rfl, rfl, rfl⟩ := hcs
    simp only [Prod.mk.injEq] at hx
    simp only [if_true] at hz
    have hN : ∀ N, (∀ elems spare, d = .slice elems spare → elems.length + spare.length ≤ N) → len ≤ N ∧ cap ≤ N := fun N hN => by
      have hs := hN _ _ hx.1
      simp only [lits, List.length_map, List.length_take, List.length_drop] at hs
      omega
    have hb : ∀ z ∈ zs, 0 ≤ z ∧ z < 256 := fun z hz => by
      have := bounds_u8 (hwz z hz)
      omega
    refine ⟨(zs.take len).map Int.toNat, ⟨?_, .inr ⟨x, rfl, fun j u hu => ?_⟩⟩, ?_, hl, (fun f => by cases f), hN⟩
    · rw [nums_len, List.length_map, List.length_take]; omega
    · simp only [nums, List.getElem?_map, Option.map_eq_some_iff] at hu
      obtain ⟨n1, ⟨n2, ⟨z, hz1, rfl⟩, rfl⟩, rfl⟩ := hu
      rw [List.getElem?_take] at hz1
      split at hz1
      · rename_i hj
        have hjz : j < zs.length := (List.getElem?_eq_some_iff.1 hz1).1
        have hze : zs[j] = z := (List.getElem?_eq_some_iff.1 hz1).2
        have g := hcell j hjz
        have := hb z (by rw [← hze]; exact List.getElem_mem hjz)
        rw [show ((z.toNat : Nat) : Int) = z by omega]
        rw [g, ← hze]
        simp [List.getD, hjz]
      · cases hz1
    · intro y hy
      simp only [List.mem_map] at hy
      obtain ⟨z, hz1, rfl⟩ := hy
      have := hb z (List.mem_of_mem_take hz1)
      omega
theorem ocPrp : Tryd.prog.cellsOf 23 = 3 := by kernel_rfl
def Prp.cells (o : Prp) : List Value := [.int .i64 o.lc, .int .i64 o.lp, .int .i64 o.pb]
/-- Its numbers are within their kinds. -/
def Prp.ok (o : Prp) : Prop := I64 o.lc ∧ I64 o.lp ∧ I64 o.pb ∧ True
theorem Prp_cut {cs : List Value} (h : cs.length = 3) : ∃ c0 c1 c2, cs = [c0, c1, c2] := by
  match cs, h with
  | [c0, c1, c2], _ => exact ⟨c0, c1, c2, rfl⟩
theorem open_Prpc {H : Type} {enc : TypeId × Value → H} {W : World} {fuel : Nat} {cs : List Value} {y : DataW H × List MemPlace}
    (hf : DataW.trod enc Tryd.prog W 0 (fun _ => true) true fuel 23 cs = some y) : ∃ o : Prp, cs = o.cells ∧ o.ok := by
  obtain ⟨xs, n, _, rfl, hl, hlen, hx⟩ := DataW.trod_struct Tryd.underlying23 hf
  rw [ocPrp] at hl
  obtain ⟨c0, c1, c2, rfl⟩ := Prp_cut hl
  have hs : xs.length = 3 := by simpa using hlen
  have h0 : DataW.trod enc Tryd.prog W 0 (fun _ => true) true n 3 [c0] = xs[0]? := by have := hx 0 _ rfl; simpa [ocI, ocB, ocU] using this
  obtain ⟨y0, e0⟩ : ∃ y, xs[0]? = some y := ⟨xs[0], List.getElem?_eq_getElem (by omega)⟩
  rw [e0] at h0
  obtain ⟨z0, q0, _, w0⟩ := DataW.trod_int Tryd.underlying3 h0
  have h1 : DataW.trod enc Tryd.prog W 0 (fun _ => true) true n 3 [c1] = xs[1]? := by have := hx 1 _ rfl; simpa [ocI, ocB, ocU] using this
  obtain ⟨y1, e1⟩ : ∃ y, xs[1]? = some y := ⟨xs[1], List.getElem?_eq_getElem (by omega)⟩
  rw [e1] at h1
  obtain ⟨z1, q1, _, w1⟩ := DataW.trod_int Tryd.underlying3 h1
  have h2 : DataW.trod enc Tryd.prog W 0 (fun _ => true) true n 3 [c2] = xs[2]? := by have := hx 2 _ rfl; simpa [ocI, ocB, ocU] using this
  obtain ⟨y2, e2⟩ : ∃ y, xs[2]? = some y := ⟨xs[2], List.getElem?_eq_getElem (by omega)⟩
  rw [e2] at h2
  obtain ⟨z2, q2, _, w2⟩ := DataW.trod_int Tryd.underlying3 h2
  simp only [List.cons.injEq, and_true] at q0 q1 q2
  subst q0
  subst q1
  subst q2
  exact ⟨⟨z0, z1, z2⟩, rfl, bounds_i64 w0, bounds_i64 w1, bounds_i64 w2, trivial⟩
theorem open_Prp {H : Type} {enc : TypeId × Value → H} {W : World} {base : Nat} {v : Value} {d : DataW H} {p : List MemPlace}
    (hok : Value.okWide Tryd.prog W .any base 23 v) (h : DataW.Trod enc Tryd.prog W 0 (fun _ => true) true 23 v d p) : ∃ o : Prp, v = .agg o.cells.toArray ∧ o.ok := by
  obtain ⟨cs, rfl, hsz⟩ := okWide_struct Tryd.underlying23 hok
  obtain ⟨fuel, hf⟩ := h
  obtain ⟨o, e, hI⟩ := open_Prpc hf
  refine ⟨o, ?_, hI⟩
  simp only [Value.cells] at e
  congr 1
  exact Array.toList_inj.1 (by rw [e])
theorem ocChk : Tryd.prog.cellsOf 25 = 6 := by kernel_rfl
def Chk.cells (o : Chk) : List Value := [.int .i64 o.k, .int .i64 o.s, .int .i64 o.p, .int .i64 o.lc, .int .i64 o.lp, .int .i64 o.pb]
/-- Its numbers are within their kinds. -/
def Chk.ok (o : Chk) : Prop := I64 o.k ∧ I64 o.s ∧ I64 o.p ∧ I64 o.lc ∧ I64 o.lp ∧ I64 o.pb ∧ True
theorem Chk_cut {cs : List Value} (h : cs.length = 6) : ∃ c0 c1 c2 c3 c4 c5, cs = [c0, c1, c2, c3, c4, c5] := by
  match cs, h with
  | [c0, c1, c2, c3, c4, c5], _ => exact ⟨c0, c1, c2, c3, c4, c5, rfl⟩
theorem open_Chkc {H : Type} {enc : TypeId × Value → H} {W : World} {fuel : Nat} {cs : List Value} {y : DataW H × List MemPlace}
    (hf : DataW.trod enc Tryd.prog W 0 (fun _ => true) true fuel 25 cs = some y) : ∃ o : Chk, cs = o.cells ∧ o.ok := by
  obtain ⟨xs, n, _, rfl, hl, hlen, hx⟩ := DataW.trod_struct Tryd.underlying25 hf
  rw [ocChk] at hl
  obtain ⟨c0, c1, c2, c3, c4, c5, rfl⟩ := Chk_cut hl
  have hs : xs.length = 4 := by simpa using hlen
  have h0 : DataW.trod enc Tryd.prog W 0 (fun _ => true) true n 3 [c0] = xs[0]? := by have := hx 0 _ rfl; simpa [ocI, ocB, ocU, ocPrp] using this
  obtain ⟨y0, e0⟩ : ∃ y, xs[0]? = some y := ⟨xs[0], List.getElem?_eq_getElem (by omega)⟩
  rw [e0] at h0
  obtain ⟨z0, q0, _, w0⟩ := DataW.trod_int Tryd.underlying3 h0
  have h1 : DataW.trod enc Tryd.prog W 0 (fun _ => true) true n 3 [c1] = xs[1]? := by have := hx 1 _ rfl; simpa [ocI, ocB, ocU, ocPrp] using this
  obtain ⟨y1, e1⟩ : ∃ y, xs[1]? = some y := ⟨xs[1], List.getElem?_eq_getElem (by omega)⟩
  rw [e1] at h1
  obtain ⟨z1, q1, _, w1⟩ := DataW.trod_int Tryd.underlying3 h1
  have h2 : DataW.trod enc Tryd.prog W 0 (fun _ => true) true n 3 [c2] = xs[2]? := by have := hx 2 _ rfl; simpa [ocI, ocB, ocU, ocPrp] using this
  obtain ⟨y2, e2⟩ : ∃ y, xs[2]? = some y := ⟨xs[2], List.getElem?_eq_getElem (by omega)⟩
  rw [e2] at h2
  obtain ⟨z2, q2, _, w2⟩ := DataW.trod_int Tryd.underlying3 h2
  have h3 : DataW.trod enc Tryd.prog W 0 (fun _ => true) true n 23 [c3, c4, c5] = xs[3]? := by have := hx 3 _ rfl; simpa [ocI, ocB, ocU, ocPrp] using this
  obtain ⟨y3, e3⟩ : ∃ y, xs[3]? = some y := ⟨xs[3], List.getElem?_eq_getElem (by omega)⟩
  rw [e3] at h3
  obtain ⟨s3, q3, k3⟩ := open_Prpc h3
  simp only [List.cons.injEq, and_true, Prp.cells] at q0 q1 q2 q3
  subst q0
  subst q1
  subst q2
  obtain ⟨rfl, rfl, rfl⟩ := q3
  exact ⟨⟨z0, z1, z2, s3.lc, s3.lp, s3.pb⟩, rfl, bounds_i64 w0, bounds_i64 w1, bounds_i64 w2, (by unfold Prp.ok at k3; simp_all), (by unfold Prp.ok at k3; simp_all), (by unfold Prp.ok at k3; simp_all), trivial⟩
theorem open_Chk {H : Type} {enc : TypeId × Value → H} {W : World} {base : Nat} {v : Value} {d : DataW H} {p : List MemPlace}
    (hok : Value.okWide Tryd.prog W .any base 25 v) (h : DataW.Trod enc Tryd.prog W 0 (fun _ => true) true 25 v d p) : ∃ o : Chk, v = .agg o.cells.toArray ∧ o.ok := by
  obtain ⟨cs, rfl, hsz⟩ := okWide_struct Tryd.underlying25 hok
  obtain ⟨fuel, hf⟩ := h
  obtain ⟨o, e, hI⟩ := open_Chkc hf
  refine ⟨o, ?_, hI⟩
  simp only [Value.cells] at e
  congr 1
  exact Array.toList_inj.1 (by rw [e])
set_option maxRecDepth 100000 in
theorem open_ChkL {H : Type} {enc : TypeId × Value → H} {W : World} {a : Option Addr} {len cap : Nat} {d : DataW H} {p : List MemPlace}
    (h : DataW.Trod enc Tryd.prog W 0 (fun _ => true) true 39 (.slice a len cap) d p) : ∃ l : List Chk, (∀ (k : Nat) (q : Chk), l[k]? = some q → q.ok ∧ ∃ b off, a = some ⟨b, off, none⟩ ∧ W.cell? ⟨b, off + k * 6, none⟩ = some (.int .i64 q.k) ∧ W.cell? ⟨b, off + k * 6 + 1, none⟩ = some (.int .i64 q.s) ∧ W.cell? ⟨b, off + k * 6 + 2, none⟩ = some (.int .i64 q.p) ∧ W.cell? ⟨b, off + k * 6 + 3, none⟩ = some (.int .i64 q.lc) ∧ W.cell? ⟨b, off + k * 6 + 4, none⟩ = some (.int .i64 q.lp) ∧ W.cell? ⟨b, off + k * 6 + 5, none⟩ = some (.int .i64 q.pb)) ∧ l.length = len ∧ (∀ N, (∀ elems spare, d = .slice elems spare → elems.length + spare.length ≤ N) → len ≤ N) := by
  obtain ⟨fuel, hf⟩ := h
  rcases Deep.open_slice Tryd.underlying39 hf with ⟨hcs, _⟩ | ⟨x, len', cap', m, n, D, Pl, hcs, _, hl, hm, hmm, hx, hel⟩
  · simp [Value.cells] at hcs
    obtain ⟨rfl, rfl, rfl⟩ := hcs
    exact ⟨[], fun k q hk => by simp at hk, rfl, fun _ _ => Nat.zero_le _⟩
  · simp [Value.cells] at hcs
    obtain ⟨rfl, rfl, rfl⟩ := hcs
    simp only [if_true] at hmm
    subst hmm
    simp only [Prod.mk.injEq] at hx
    have hb : (∀ N, (∀ elems spare, d = .slice elems spare → elems.length + spare.length ≤ N) → len ≤ N) := fun N hN => by
      have hs := hN _ _ hx.1
      simp only [List.length_map, List.length_range] at hs
      omega
    have hq : ∀ k, ∃ q : Chk, k < len → q.ok ∧ W.cells? 0 (x.add (k * 6)) 6 = some q.cells := fun k => by
      by_cases hk : k < len
      · obtain ⟨cs', h1, h2⟩ := hel k (by omega)
        rw [ocChk] at h1
        obtain ⟨q, e, h3⟩ := open_Chkc h2
        subst e
        exact ⟨q, fun _ => ⟨h3, h1⟩⟩
      · exact ⟨⟨0, 0, 0, 0, 0, 0⟩, fun f => absurd f hk⟩
    obtain ⟨f, hf⟩ := Classical.axiomOfChoice hq
    refine ⟨(List.range len).map f, fun k q hk => ?_, by simp, hb⟩
    have hkl : k < len := by
      have := (List.getElem?_eq_some_iff.1 hk).1
      simpa using this
    have hfk : f k = q := by simpa [hkl] using hk
    obtain ⟨hv, h1⟩ := hf k hkl
    rw [hfk] at hv h1
    have hc := (World.cells?_some h1).2.2
    obtain ⟨g, off, sp⟩ := x
    have g0 := hc 0 (by simp [Chk.cells])
    have g1 := hc 1 (by simp [Chk.cells])
    have g2 := hc 2 (by simp [Chk.cells])
    have g3 := hc 3 (by simp [Chk.cells])
    have g4 := hc 4 (by simp [Chk.cells])
    have g5 := hc 5 (by simp [Chk.cells])
    have hs : sp = none := by
      obtain ⟨_, q1⟩ := hf 0 (by omega)
      have q0 := (World.cells?_some q1).2.2 0 (by simp [Chk.cells])
      simp [Addr.add] at q0
      exact World.cell?_spot q0
    subst hs
    have q0 : W.cell? ⟨g, off + k * 6, none⟩ = some (.int .i64 q.k) := by have := oadd g off (k * 6) 0; rw [Nat.add_zero] at this; rw [← this]; exact g0
    exact ⟨hv, g, off, rfl, q0, by rw [← oadd g off (k * 6) 1]; exact g1, by rw [← oadd g off (k * 6) 2]; exact g2, by rw [← oadd g off (k * 6) 3]; exact g3, by rw [← oadd g off (k * 6) 4]; exact g4, by rw [← oadd g off (k * 6) 5]; exact g5⟩
theorem obChk : Tryd.prog.bytesOf 25 = 48 := by kernel_rfl
theorem Chk.ok_I {c : Chk} (h : c.ok) : c.I := ⟨h.1, h.2.1, h.2.2.1, h.2.2.2.1, h.2.2.2.2.1, h.2.2.2.2.2.1⟩
end Go.Proofs.YtannepoclpmedaaDoor
