/- What the readings of the arguments give; of no statement by themselves. -/
import Derived.Test.YtkncbanodpfccaaDoorBoundD
import Derived.ProofKit
import Derived.OpenShut
import Derived.ShutString
import Derived.ChangeOld
import Derived.SizedLaws
import Derived.Below
import Derived.Deep.Slices
namespace Go.Proofs.YtkncbanodpfccaaDoor
set_option maxRecDepth 20000
open Go.ChangeShapes Go.WideShapes Go.ChangeAt Go.RowKit
set_option linter.unusedVariables false
set_option linter.unusedSimpArgs false
theorem ocI : Tryd.prog.cellsOf 3 = 1 := by kernel_rfl
theorem ocB : Tryd.prog.cellsOf 4 = 1 := by kernel_rfl
theorem ocU : Tryd.prog.cellsOf 5 = 1 := by kernel_rfl
theorem obI : Tryd.prog.bytesOf 3 = 8 := by kernel_rfl
theorem obU : Tryd.prog.bytesOf 5 = 1 := by kernel_rfl
theorem oadd (b off i j : Nat) : ((⟨b, off, none⟩ : Addr).add i).add j = ⟨b, off + i + j, none⟩ := by rw [addk, addk]
theorem open_bytes8 {H : Type} {enc : TypeId × Value → H} {W : World} {a : Option Addr} {len cap : Nat} {d : DataW H} {p : List MemPlace}
    (h : DataW.Trod enc Tryd.prog W 0 (fun _ => true) true 25 (.slice a len cap) d p) : ∃ bs : List Nat, Row8 W a len cap (nums bs) ∧ Rc.Dig bs ∧ len ≤ cap ∧ (a = none → len = 0 ∧ cap = 0) ∧ (∀ N, (∀ elems spare, d = .slice elems spare → elems.length + spare.length ≤ N) → len ≤ N ∧ cap ≤ N) := by
  obtain ⟨fuel, hf⟩ := h
  rcases open_ints Tryd.underlying25 Tryd.underlying5 (by kernel_rfl) hf with ⟨hcs, _⟩ | ⟨x, l, c, zs, hcs, _, hl, hm, hz, hx, hcell, hwz⟩
  · simp [Value.cells] at hcs
    obtain ⟨rfl, rfl, rfl⟩ := hcs
    exact ⟨[], ⟨rfl, .inl ⟨rfl, rfl, rfl⟩⟩, fun x hx => (List.not_mem_nil hx).elim, Nat.le_refl _, fun _ => ⟨rfl, rfl⟩, fun _ _ => ⟨Nat.zero_le _, Nat.zero_le _⟩⟩
  · simp [Value.cells] at hcs
    obtain ⟨rfl, rfl, rfl⟩ := hcs
    simp only [Prod.mk.injEq] at hx
    simp only [if_true] at hz
    have hN : ∀ N, (∀ elems spare, d = .slice elems spare → elems.length + spare.length ≤ N) → len ≤ N ∧ cap ≤ N := fun N hN => by
      have hs := hN _ _ hx.1
      simp only [lits, List.length_map, List.length_take, List.length_drop] at hs
      omega
    have hb : ∀ z ∈ zs, 0 ≤ z ∧ z < 256 := fun z hz => by
      have := bounds_u8 (hwz z hz)
      omega
    refine ⟨(zs.take len).map Int.toNat, ⟨?_, .inr ⟨x, rfl, fun j u hu => ?_⟩⟩, ?_, hl, (fun f => by cases f), hN⟩
    · rw [nums_len, List.length_map, List.length_take]; omega
    · simp only [nums, List.getElem?_map, Option.map_eq_some_iff] at hu
      obtain ⟨n1, ⟨n2, ⟨z, hz1, rfl⟩, rfl⟩, rfl⟩ := hu
      rw [List.getElem?_take] at hz1
      split at hz1
      · rename_i hj
        have hjz : j < zs.length := (List.getElem?_eq_some_iff.1 hz1).1
        have hze : zs[j] = z := (List.getElem?_eq_some_iff.1 hz1).2
        have g := hcell j hjz
        have := hb z (by rw [← hze]; exact List.getElem_mem hjz)
        rw [show ((z.toNat : Nat) : Int) = z by omega]
        rw [g, ← hze]
        simp [List.getD, hjz]
      · cases hz1
    · intro y hy
      simp only [List.mem_map] at hy
      obtain ⟨z, hz1, rfl⟩ := hy
      have := hb z (List.mem_of_mem_take hz1)
      omega
theorem ocBy : Tryd.prog.cellsOf 25 = 1 := by kernel_rfl
theorem ocQ : Tryd.prog.cellsOf 52 = 1 := by kernel_rfl
theorem ocFl : Tryd.prog.cellsOf 54 = 2 := by kernel_rfl
theorem obFl : Tryd.prog.bytesOf 54 = 32 := by kernel_rfl
theorem weights_mem_all {H : Type} {P : Program} {e : TypeId} : ∀ {l : List (DataW H)} {d : DataW H}, d ∈ l → ∀ n ∈ d.weights P e, n ∈ DataW.weightsAll P e l
  | x :: r, d, h, n, hn => by
    simp only [DataW.weightsAll, List.mem_append]
    rcases List.mem_cons.1 h with rfl | h
    · exact .inl hn
    · exact .inr (weights_mem_all h n hn)
theorem sized_in {H : Type} {P : Program} {t e t2 e2 : TypeId} {fs : Array Field} {elems spare : List (DataW H)} (h : ∀ n ∈ (DataW.slice elems spare : DataW H).weights P t, n ≤ reachBytes) (hu : P.underlying t = some (.slice e)) (hs : P.underlying e = some (.struct fs)) {i : Nat} (hf : (fs.toList.map (·.type))[i]? = some t2) (hu2 : P.underlying t2 = some (.slice e2))
    {parts a b : List (DataW H)} (hm : DataW.agg parts ∈ elems) (hp : parts[i]? = some (.slice a b)) : (a.length + b.length) * P.bytesOf e2 ≤ reachBytes := by
  refine h _ ?_
  simp only [DataW.weights, hu, List.mem_cons, List.mem_append]
  refine .inr (.inl (weights_mem_all hm _ ?_))
  simp only [DataW.weights, hs]
  exact DataW.weights_mem_each hf hp _ (by simp [DataW.weights, hu2])
theorem weights_all {H : Type} {P : Program} {ts : List TypeId} {ds : List (DataW H)} (h : (DataW.weightsEach P ts ds).all (· ≤ reachBytes) = true) {j : Nat} {t : TypeId} {d : DataW H} (ht : ts[j]? = some t) (hd : ds[j]? = some d) : ∀ n ∈ d.weights P t, n ≤ reachBytes := fun n hn => by
  have := List.all_eq_true.1 h _ (DataW.weights_mem_each ht hd n hn)
  simpa using this
theorem two_cells {cs : List Value} (h : cs.length = 2) : ∃ c0 c1, cs = [c0, c1] := by
  match cs, h with
  | [c0, c1], _ => exact ⟨c0, c1, rfl⟩
theorem open_fl {H : Type} {enc : TypeId × Value → H} {W : World} {fuel : Nat} {cs : List Value} {y : DataW H × List MemPlace}
    (hf : DataW.trod enc Tryd.prog W 0 (fun _ => true) true fuel 54 cs = some y) {N : Nat} (hM : N ≤ 140737488351232) (hN : ∀ parts e s, y.1 = .agg parts → parts[1]? = some (.slice e s) → e.length + s.length ≤ N) : ∃ o : FlV, cs = o.cells ∧ o.ok W ∧ o.n ≤ N := by
  obtain ⟨xs, n, _, rfl, hl, hlen, hx⟩ := DataW.trod_struct Tryd.underlying54 hf
  rw [ocFl] at hl
  obtain ⟨c0, c1, rfl⟩ := two_cells hl
  have h0 : DataW.trod enc Tryd.prog W 0 (fun _ => true) true n 52 [c0] = xs[0]? := by have := hx 0 _ rfl; simpa [ocQ] using this
  have h1 : DataW.trod enc Tryd.prog W 0 (fun _ => true) true n 25 [c1] = xs[1]? := by have := hx 1 _ rfl; simpa [ocQ, ocBy] using this
  have hs : xs.length = 2 := by simpa using hlen
  obtain ⟨y0, e0⟩ : ∃ y, xs[0]? = some y := ⟨xs[0], List.getElem?_eq_getElem (by omega)⟩
  rw [e0] at h0
  obtain ⟨y1, e1⟩ : ∃ y, xs[1]? = some y := ⟨xs[1], List.getElem?_eq_getElem (by omega)⟩
  rw [e1] at h1
  obtain ⟨z0, q0, _, w0⟩ := DataW.trod_int Tryd.underlying52 h0
  obtain ⟨b0, b1⟩ := bounds_u64 w0
  obtain ⟨a, len, cap, rfl⟩ : ∃ a len cap, c1 = .slice a len cap := by
    rcases open_ints Tryd.underlying25 Tryd.underlying5 (by kernel_rfl) h1 with ⟨hcs, _⟩ | ⟨x, l, c, zs, hcs, _⟩
    · simp only [List.cons.injEq, and_true] at hcs
      exact ⟨_, _, _, hcs⟩
    · simp only [List.cons.injEq, and_true] at hcs
      exact ⟨_, _, _, hcs⟩
  have h5 : DataW.Trod enc Tryd.prog W 0 (fun _ => true) true 25 (.slice a len cap) y1.1 y1.2 := ⟨n, h1⟩
  obtain ⟨bs, hr, hd, hc, _, hb⟩ := open_bytes8 h5
  simp only [List.cons.injEq, and_true] at q0
  subst q0
  have hlN := (hb N (fun elems spare e => hN _ elems spare rfl (by rw [List.getElem?_map, e1]; simp [e]))).1
  refine ⟨⟨z0.toNat, a, len, cap, bs⟩, ?_, ⟨by simp only; omega, hr, hd, hc, by simp only; omega⟩, hlN⟩
  simp only [FlV.cells]
  rw [Int.toNat_of_nonneg b0]
set_option maxRecDepth 100000 in
theorem open_flL {H : Type} {enc : TypeId × Value → H} {W : World} {a : Option Addr} {len cap : Nat} {d : DataW H} {p : List MemPlace}
    (h : DataW.Trod enc Tryd.prog W 0 (fun _ => true) true 22 (.slice a len cap) d p) (hw : ∀ n ∈ d.weights Tryd.prog 22, n ≤ reachBytes) : ∃ l : List FlV, FlL W a l ∧ l.length = len ∧ len ≤ cap ∧ len ≤ 4398046510976 := by
  obtain ⟨fuel, hf⟩ := h
  rcases Deep.open_slice Tryd.underlying22 hf with ⟨hcs, _⟩ | ⟨x, len', cap', m, n, D, Pl, hcs, _, hl, hm, hmm, hx, hel⟩
  · simp [Value.cells] at hcs
    obtain ⟨rfl, rfl, rfl⟩ := hcs
    exact ⟨[], fun k q hk => by simp at hk, rfl, Nat.le_refl _, Nat.zero_le _⟩
  · simp [Value.cells] at hcs
    obtain ⟨rfl, rfl, rfl⟩ := hcs
    simp only [if_true] at hmm
    subst hmm
    simp only [Prod.mk.injEq] at hx
    obtain ⟨rfl, _⟩ := hx
    have hb : len ≤ 4398046510976 := by
      have hs := hw _ (by simp only [DataW.weights, Tryd.underlying22]; exact List.mem_cons_self)
      rw [obFl] at hs
      simp only [List.length_map, List.length_range, reachBytes] at hs
      omega
    have hq : ∀ k, ∃ q : FlV, k < len → q.ok W ∧ W.cells? 0 (x.add (k * 2)) 2 = some q.cells := fun k => by
      by_cases hk : k < len
      · obtain ⟨cs', h1, h2⟩ := hel k (by omega)
        rw [ocFl] at h1
        obtain ⟨q, e, h3, _⟩ := open_fl h2 (Nat.le_refl _) (fun parts e s he hp => by
          have := sized_in hw Tryd.underlying22 Tryd.underlying54 (i := 1) rfl Tryd.underlying25 (List.mem_map.2 ⟨k, List.mem_range.2 hk, he⟩) hp
          rw [obU] at this
          unfold reachBytes at this
          omega)
        subst e
        exact ⟨q, fun _ => ⟨h3, h1⟩⟩
      · exact ⟨⟨0, none, 0, 0, []⟩, fun f => absurd f hk⟩
    obtain ⟨f, hf⟩ := Classical.axiomOfChoice hq
    refine ⟨(List.range len).map f, fun k q hk => ?_, by simp, hl, hb⟩
    have hkl : k < len := by
      have := (List.getElem?_eq_some_iff.1 hk).1
      simpa using this
    have hfk : f k = q := by simpa [hkl] using hk
    obtain ⟨hv, h1⟩ := hf k hkl
    rw [hfk] at hv h1
    have hc := (World.cells?_some h1).2.2
    obtain ⟨g, off, sp⟩ := x
    have g0 := hc 0 (by simp [FlV.cells])
    have g1 := hc 1 (by simp [FlV.cells])
    have hs : sp = none := by
      obtain ⟨_, q1⟩ := hf 0 (by omega)
      have q0 := (World.cells?_some q1).2.2 0 (by simp [FlV.cells])
      simp [Addr.add] at q0
      exact World.cell?_spot q0
    subst hs
    have q0 : W.cell? ⟨g, off + k * 2, none⟩ = some (.int .u64 (q.id : Int)) := by have := oadd g off (k * 2) 0; rw [Nat.add_zero] at this; rw [← this]; exact g0
    exact ⟨hv, g, off, rfl, q0, by rw [← oadd g off (k * 2) 1]; exact g1⟩
set_option maxRecDepth 100000 in
theorem open_flV {H : Type} {enc : TypeId × Value → H} {W : World} {base : Nat} {v : Value} {d : DataW H} {p : List MemPlace} {N : Nat} (hM : N ≤ 140737488351232)
    (hok : Value.okWide Tryd.prog W .any base 54 v) (h : DataW.Trod enc Tryd.prog W 0 (fun _ => true) true 54 v d p) (hN : ∀ parts e s, d = .agg parts → parts[1]? = some (.slice e s) → e.length + s.length ≤ N) : ∃ o : FlV, v = .agg o.cells.toArray ∧ o.ok W ∧ o.n ≤ N := by
  obtain ⟨cs, rfl, hsz⟩ := okWide_struct Tryd.underlying54 hok
  obtain ⟨fuel, hf⟩ := h
  obtain ⟨o, e, hI, hn⟩ := open_fl hf hM hN
  refine ⟨o, ?_, hI, hn⟩
  simp only [Value.cells] at e
  congr 1
  exact Array.toList_inj.1 (by rw [e])
open Cn20
def Prp.cells (o : Prp) : List Value := [.int .i64 o.lc, .int .i64 o.lp, .int .i64 o.pb]
/-- Its numbers are within their kinds. -/
def Prp.ok (o : Prp) : Prop := I64 o.lc ∧ I64 o.lp ∧ I64 o.pb ∧ True
theorem Prp_cut {cs : List Value} (h : cs.length = 3) : ∃ c0 c1 c2, cs = [c0, c1, c2] := by
  match cs, h with
  | [c0, c1, c2], _ => exact ⟨c0, c1, c2, rfl⟩
def Cfg.cells (o : Cfg) : List Value := [.int .i64 o.ch, .int .i64 o.de, .int .i64 o.lc, .int .i64 o.lp, .int .i64 o.pb, .int .i64 o.di, .int .i64 o.bl, .int .i64 o.mo]
/-- Its numbers are within their kinds. -/
def Cfg.ok (o : Cfg) : Prop := I64 o.ch ∧ I64 o.de ∧ I64 o.lc ∧ I64 o.lp ∧ I64 o.pb ∧ I64 o.di ∧ I64 o.bl ∧ I64 o.mo ∧ True
theorem Cfg_cut {cs : List Value} (h : cs.length = 8) : ∃ c0 c1 c2 c3 c4 c5 c6 c7, cs = [c0, c1, c2, c3, c4, c5, c6, c7] := by
  match cs, h with
  | [c0, c1, c2, c3, c4, c5, c6, c7], _ => exact ⟨c0, c1, c2, c3, c4, c5, c6, c7, rfl⟩
theorem Cfg.ok_I {c : Cfg} (h : c.ok) : c.I := ⟨h.1, h.2.1, h.2.2.1, h.2.2.2.1, h.2.2.2.2.1, h.2.2.2.2.2.1, h.2.2.2.2.2.2.1, h.2.2.2.2.2.2.2.1⟩
end Go.Proofs.YtkncbanodpfccaaDoor
