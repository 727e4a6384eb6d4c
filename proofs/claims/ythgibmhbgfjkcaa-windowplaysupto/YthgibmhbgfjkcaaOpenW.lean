/- What the readings of the arguments give: lists of bytes, of whole numbers, of steps with lists in them; of no statement by themselves. -/
import Derived.Test.YthgibmhbgfjkcaaWo
import Derived.ProofKit
import Derived.OpenShut
import Derived.ShutString
import Derived.ChangeOld
import Derived.SizedLaws
import Derived.Below
import Derived.Deep.Slices
namespace Go.Proofs.Ythgibmhbgfjkcaa
open Go.ChangeShapes Go.WideShapes Go.ChangeAt Go.RowKit
set_option linter.unusedVariables false

theorem cellsI : Try.prog.cellsOf 3 = 1 := by kernel_rfl
theorem cellsBy : Try.prog.cellsOf 22 = 1 := by kernel_rfl
theorem cellsOp : Try.prog.cellsOf 37 = 5 := by kernel_rfl
theorem bytesOp : Try.prog.bytesOf 37 = 56 := by kernel_rfl
theorem bytesInt : Try.prog.bytesOf 3 = 8 := by kernel_rfl
theorem bytesY : Try.prog.bytesOf 5 = 1 := by kernel_rfl
theorem five_cells {cs : List Value} (h : cs.length = 5) : ∃ c0 c1 c2 c3 c4, cs = [c0, c1, c2, c3, c4] := by
  match cs, h with
  | [c0, c1, c2, c3, c4], _ => exact ⟨c0, c1, c2, c3, c4, rfl⟩
theorem addadd (b off i j : Nat) : ((⟨b, off, none⟩ : Addr).add i).add j = ⟨b, off + i + j, none⟩ := by rw [addk, addk]
theorem open_bytes8 {H : Type} {enc : TypeId × Value → H} {W : World} {a : Option Addr} {len cap : Nat} {d : DataW H} {p : List MemPlace}
    (h : DataW.Trod enc Try.prog W 0 (fun _ => true) true 22 (.slice a len cap) d p) : ∃ bs : List Nat, Row8 W a len cap (nums bs) ∧ Rc.Dig bs ∧ len ≤ cap ∧ (a = none → len = 0 ∧ cap = 0) ∧ (∀ N, (∀ elems spare, d = .slice elems spare → elems.length + spare.length ≤ N) → len ≤ N ∧ cap ≤ N) := by
  obtain ⟨fuel, hf⟩ := h
  rcases open_ints Try.underlying22 Try.underlying5 (by kernel_rfl) hf with ⟨hcs, _⟩ | ⟨x, l, c, zs, hcs, _, hl, hm, hz, hx, hcell, hwz⟩
  · simp [Value.cells] at hcs
    obtain ⟨rfl, rfl, rfl⟩ := hcs
    exact ⟨[], ⟨rfl, .inl ⟨rfl, rfl, rfl⟩⟩, fun x hx => (List.not_mem_nil hx).elim, Nat.le_refl _, fun _ => ⟨rfl, rfl⟩, fun _ _ => ⟨Nat.zero_le _, Nat.zero_le _⟩⟩
  · simp [Value.cells] at hcs
    obtain ⟨rfl, rfl, rfl⟩ := hcs
    simp only [Prod.mk.injEq] at hx
    simp only [if_true] at hz
    have hN : ∀ N, (∀ elems spare, d = .slice elems spare → elems.length + spare.length ≤ N) → len ≤ N ∧ cap ≤ N := fun N hN => by
      have hs := hN _ _ hx.1
      simp only [lits, List.length_map, List.length_take, List.length_drop] at hs
      omega
    have hb : ∀ z ∈ zs, 0 ≤ z ∧ z < 256 := fun z hz => by
      have := bounds_u8 (hwz z hz)
      omega
    refine ⟨(zs.take len).map Int.toNat, ⟨?_, .inr ⟨x, rfl, fun j u hu => ?_⟩⟩, ?_, hl, (fun f => by cases f), hN⟩
    · rw [nums_len, List.length_map, List.length_take]; omega
    · simp only [nums, List.getElem?_map, Option.map_eq_some_iff] at hu
      obtain ⟨n1, ⟨n2, ⟨z, hz1, rfl⟩, rfl⟩, rfl⟩ := hu
      rw [List.getElem?_take] at hz1
      split at hz1
      · rename_i hj
        have hjz : j < zs.length := (List.getElem?_eq_some_iff.1 hz1).1
        have hze : zs[j] = z := (List.getElem?_eq_some_iff.1 hz1).2
        have g := hcell j hjz
        have := hb z (by rw [← hze]; exact List.getElem_mem hjz)
        rw [show ((z.toNat : Nat) : Int) = z by omega]
        rw [g, ← hze]
        simp [List.getD, hjz]
      · cases hz1
    · intro y hy
      simp only [List.mem_map] at hy
      obtain ⟨z, hz1, rfl⟩ := hy
      have := hb z (List.mem_of_mem_take hz1)
      omega
theorem open_intsB {H : Type} {enc : TypeId × Value → H} {W : World} {a : Option Addr} {len cap : Nat} {d : DataW H} {p : List MemPlace}
    (h : DataW.Trod enc Try.prog W 0 (fun _ => true) true 29 (.slice a len cap) d p) : ∃ l : List Int, IntsL W a l ∧ (∀ i ∈ l, I64 i) ∧ l.length = len ∧ (∀ N, (∀ elems spare, d = .slice elems spare → elems.length + spare.length ≤ N) → len ≤ N) := by
  obtain ⟨fuel, hf⟩ := h
  rcases Deep.open_slice1 Try.underlying29 cellsI hf with ⟨hcs, _⟩ | ⟨x, len', cap', m, n, V, D, Pl, hcs, _, hl, hm, hmm, hx, hel⟩
  · simp [Value.cells] at hcs
    obtain ⟨rfl, rfl, rfl⟩ := hcs
    exact ⟨[], fun k q hk => by simp at hk, fun i hi => by simp at hi, rfl, fun _ _ => Nat.zero_le _⟩
  · simp [Value.cells] at hcs
    obtain ⟨rfl, rfl, rfl⟩ := hcs
    simp only [if_true] at hmm
    subst hmm
    simp only [Prod.mk.injEq] at hx
    have hb : ∀ N, (∀ elems spare, d = .slice elems spare → elems.length + spare.length ≤ N) → len ≤ N := fun N hN => by
      have hs := hN _ _ hx.1
      simp only [List.length_map, List.length_range] at hs
      omega
    have hq : ∀ k, ∃ q : Int, k < len → W.cell? (x.add k) = some (.int .i64 q) ∧ I64 q := fun k => by
      by_cases hk : k < len
      · obtain ⟨h1, h2⟩ := hel k (by omega)
        obtain ⟨z0, q0, _, w0⟩ := DataW.trod_int Try.underlying3 h2
        simp only [List.cons.injEq, and_true] at q0
        exact ⟨z0, fun _ => ⟨by rw [← q0]; exact h1, (bounds_i64 w0).1, (bounds_i64 w0).2⟩⟩
      · exact ⟨0, fun f => absurd f hk⟩
    obtain ⟨f, hf⟩ := Classical.axiomOfChoice hq
    refine ⟨(List.range len).map f, fun k q hk => ?_, fun i hi => by
      simp only [List.mem_map, List.mem_range] at hi
      obtain ⟨k, hk, rfl⟩ := hi
      exact (hf k hk).2, by simp, hb⟩
    have hkl : k < len := by
      have := (List.getElem?_eq_some_iff.1 hk).1
      simpa using this
    have hfk : f k = q := by simpa [hkl] using hk
    have h1 := (hf k hkl).1
    rw [hfk] at h1
    obtain ⟨g, off, sp⟩ := x
    have hs : sp = none := by
      have q1 := (hf 0 (by omega)).1
      simp [Addr.add] at q1
      exact World.cell?_spot q1
    subst hs
    rw [addk] at h1
    exact ⟨g, off, rfl, h1⟩
def Wop.cells (o : Wop) : List Value := [.int .i64 o.kd, .int .i64 o.wi, .int .i64 o.dist, .int .i64 o.n, .slice o.ad o.len o.cap]
theorem open_wop {H : Type} {enc : TypeId × Value → H} {W : World} {fuel : Nat} {cs : List Value} {y : DataW H × List MemPlace}
    (hf : DataW.trod enc Try.prog W 0 (fun _ => true) true fuel 37 cs = some y) (N : Nat) (hN2 : N ≤ 140737488351232) (hN : ∀ parts e s, y.1 = .agg parts → parts[4]? = some (.slice e s) → e.length + s.length ≤ N) : ∃ o : Wop, cs = o.cells ∧ o.ok ∧ Row8 W o.ad o.len o.cap (nums o.bs) ∧ o.len ≤ N := by
  obtain ⟨xs, n, _, rfl, hl, hlen, hx⟩ := DataW.trod_struct Try.underlying37 hf
  rw [cellsOp] at hl
  obtain ⟨c0, c1, c2, c3, c4, rfl⟩ := five_cells hl
  have h0 : DataW.trod enc Try.prog W 0 (fun _ => true) true n 3 [c0] = xs[0]? := by have := hx 0 _ rfl; simpa [cellsI] using this
  have h1 : DataW.trod enc Try.prog W 0 (fun _ => true) true n 3 [c1] = xs[1]? := by have := hx 1 _ rfl; simpa [cellsI] using this
  have h2 : DataW.trod enc Try.prog W 0 (fun _ => true) true n 3 [c2] = xs[2]? := by have := hx 2 _ rfl; simpa [cellsI] using this
  have h3 : DataW.trod enc Try.prog W 0 (fun _ => true) true n 3 [c3] = xs[3]? := by have := hx 3 _ rfl; simpa [cellsI] using this
  have h4 : DataW.trod enc Try.prog W 0 (fun _ => true) true n 22 [c4] = xs[4]? := by have := hx 4 _ rfl; simpa [cellsI, cellsBy] using this
  have hs : xs.length = 5 := by simpa using hlen
  obtain ⟨y0, e0⟩ : ∃ y, xs[0]? = some y := ⟨xs[0], List.getElem?_eq_getElem (by omega)⟩
  rw [e0] at h0
  obtain ⟨y1, e1⟩ : ∃ y, xs[1]? = some y := ⟨xs[1], List.getElem?_eq_getElem (by omega)⟩
  rw [e1] at h1
  obtain ⟨y2, e2⟩ : ∃ y, xs[2]? = some y := ⟨xs[2], List.getElem?_eq_getElem (by omega)⟩
  rw [e2] at h2
  obtain ⟨y3, e3⟩ : ∃ y, xs[3]? = some y := ⟨xs[3], List.getElem?_eq_getElem (by omega)⟩
  rw [e3] at h3
  obtain ⟨y4, e4⟩ : ∃ y, xs[4]? = some y := ⟨xs[4], List.getElem?_eq_getElem (by omega)⟩
  rw [e4] at h4
  obtain ⟨z0, q0, _, w0⟩ := DataW.trod_int Try.underlying3 h0
  obtain ⟨z1, q1, _, w1⟩ := DataW.trod_int Try.underlying3 h1
  obtain ⟨z2, q2, _, w2⟩ := DataW.trod_int Try.underlying3 h2
  obtain ⟨z3, q3, _, w3⟩ := DataW.trod_int Try.underlying3 h3
  obtain ⟨a, len, cap, rfl⟩ : ∃ a len cap, c4 = .slice a len cap := by
    rcases open_ints Try.underlying22 Try.underlying5 (by kernel_rfl) h4 with ⟨hcs, _⟩ | ⟨x, l, c, zs, hcs, _⟩
    · simp only [List.cons.injEq, and_true] at hcs
      exact ⟨_, _, _, hcs⟩
    · simp only [List.cons.injEq, and_true] at hcs
      exact ⟨_, _, _, hcs⟩
  have h5 : DataW.Trod enc Try.prog W 0 (fun _ => true) true 22 (.slice a len cap) y4.1 y4.2 := ⟨n, h4⟩
  obtain ⟨bs, hr, hd, hc, _, hb⟩ := open_bytes8 h5
  simp only [List.cons.injEq, and_true] at q0 q1 q2 q3
  subst q0 q1 q2 q3
  have hlN := (hb N (fun elems spare e => hN _ elems spare rfl (by rw [List.getElem?_map, e4]; simp [e]))).1
  have b1 := bounds_i64 w1
  have b2 := bounds_i64 w2
  have b3 := bounds_i64 w3
  exact ⟨⟨z0, z1, z2, z3, a, len, cap, bs⟩, rfl, ⟨⟨b1.1, b1.2⟩, ⟨b2.1, b2.2⟩, ⟨b3.1, b3.2⟩, hd, Nat.le_trans hlN hN2, hc⟩, hr, hlN⟩
set_option maxRecDepth 100000 in
theorem open_wopsL {H : Type} {enc : TypeId × Value → H} {W : World} {a : Option Addr} {len cap : Nat} {d : DataW H} {p : List MemPlace}
    (h : DataW.Trod enc Try.prog W 0 (fun _ => true) true 35 (.slice a len cap) d p) (N : Nat) (hN2 : N ≤ 140737488351232) (hN : ∀ elems spare, d = .slice elems spare → ∀ parts e s, DataW.agg parts ∈ elems → parts[4]? = some (.slice e s) → e.length + s.length ≤ N) : ∃ l : List Wop, OpsL W a l ∧ l.length = len ∧ (∀ o ∈ l, o.len ≤ N) ∧ (∀ N, (∀ elems spare, d = .slice elems spare → elems.length + spare.length ≤ N) → len ≤ N) := by
  obtain ⟨fuel, hf⟩ := h
  rcases Deep.open_slice Try.underlying35 hf with ⟨hcs, _⟩ | ⟨x, len', cap', m, n, D, Pl, hcs, _, hl, hm, hmm, hx, hel⟩
  · simp [Value.cells] at hcs
    obtain ⟨rfl, rfl, rfl⟩ := hcs
    exact ⟨[], fun k q hk => by simp at hk, rfl, fun o ho => by simp at ho, fun _ _ => Nat.zero_le _⟩
  · simp [Value.cells] at hcs
    obtain ⟨rfl, rfl, rfl⟩ := hcs
    simp only [if_true] at hmm
    subst hmm
    simp only [Prod.mk.injEq] at hx
    have hb : ∀ N, (∀ elems spare, d = .slice elems spare → elems.length + spare.length ≤ N) → len ≤ N := fun N hN => by
      have hs := hN _ _ hx.1
      simp only [List.length_map, List.length_range] at hs
      omega
    have hq : ∀ k, ∃ q : Wop, k < len → q.ok ∧ Row8 W q.ad q.len q.cap (nums q.bs) ∧ q.len ≤ N ∧ W.cells? 0 (x.add (k * 5)) 5 = some q.cells := fun k => by
      by_cases hk : k < len
      · obtain ⟨cs', h1, h2⟩ := hel k (by omega)
        rw [cellsOp] at h1
        obtain ⟨q, e, h3, h4, h5⟩ := open_wop h2 N hN2 (fun parts e s he hp => hN _ _ hx.1 parts e s (List.mem_map.2 ⟨k, List.mem_range.2 hk, he⟩) hp)
        subst e
        exact ⟨q, fun _ => ⟨h3, h4, h5, h1⟩⟩
      · exact ⟨⟨0, 0, 0, 0, none, 0, 0, []⟩, fun f => absurd f hk⟩
    obtain ⟨f, hf⟩ := Classical.axiomOfChoice hq
    refine ⟨(List.range len).map f, fun k q hk => ?_, by simp, fun o ho => ?_, hb⟩
    · have hkl : k < len := by
        have := (List.getElem?_eq_some_iff.1 hk).1
        simpa using this
      have hfk : f k = q := by simpa [hkl] using hk
      obtain ⟨hv, hr, _, h1⟩ := hf k hkl
      rw [hfk] at hv hr h1
      have hc := (World.cells?_some h1).2.2
      obtain ⟨g, off, sp⟩ := x
      have g0 := hc 0 (by simp)
      have g1 := hc 1 (by simp)
      have g2 := hc 2 (by simp)
      have g3 := hc 3 (by simp)
      have g4 := hc 4 (by simp)
      have hs : sp = none := by
        obtain ⟨_, _, _, q1⟩ := hf 0 (by omega)
        have q0 := (World.cells?_some q1).2.2 0 (by simp)
        simp [Addr.add] at q0
        exact World.cell?_spot q0
      subst hs
      have q0 : W.cell? ⟨g, off + k * 5, none⟩ = some (.int .i64 q.kd) := by have := addadd g off (k * 5) 0; rw [Nat.add_zero] at this; rw [← this]; exact g0
      exact ⟨hv, hr, g, off, rfl, q0, by rw [← addadd g off (k * 5) 1]; exact g1, by rw [← addadd g off (k * 5) 2]; exact g2, by rw [← addadd g off (k * 5) 3]; exact g3, by rw [← addadd g off (k * 5) 4]; exact g4⟩
    · simp only [List.mem_map, List.mem_range] at ho
      obtain ⟨k, hk, rfl⟩ := ho
      exact (hf k hk).2.2.1
/-- No list inside a step is longer than memory reaches. -/
theorem weightsAll_mem {H : Type} {P : Program} {e : TypeId} : ∀ {l : List (DataW H)} {d : DataW H}, d ∈ l → ∀ n ∈ d.weights P e, n ∈ DataW.weightsAll P e l
  | _ :: l, d, hd, n, hn => by
    simp only [DataW.weightsAll, List.mem_append]
    rcases List.mem_cons.1 hd with rfl | h
    · exact Or.inl hn
    · exact Or.inr (weightsAll_mem h n hn)
  | [], d, hd, n, hn => by cases hd
theorem sized_op {H : Type} {ts : List TypeId} {ds : List (DataW H)} (h : (DataW.weightsEach Try.prog ts ds).all (· ≤ reachBytes) = true) {j : Nat} {elems spare : List (DataW H)} (ht : ts[j]? = some 35) (hd : ds[j]? = some (.slice elems spare)) (parts e s : List (DataW H)) (hm : DataW.agg parts ∈ elems) (hp : parts[4]? = some (.slice e s)) : e.length + s.length ≤ 140737488351232 := by
  have h9 : (e.length + s.length) * Try.prog.bytesOf 5 ≤ reachBytes := by
    refine of_decide_eq_true (List.all_eq_true.1 h _ (DataW.weights_mem_each ht hd _ ?_))
    simp only [DataW.weights, Try.underlying35, List.mem_cons, List.mem_append]
    refine Or.inr (Or.inl (weightsAll_mem hm _ ?_))
    simp only [DataW.weights, Try.underlying37]
    exact DataW.weights_mem_each (j := 4) (t := 22) rfl hp _ (by simp [DataW.weights, Try.underlying22])
  rw [bytesY] at h9
  unfold reachBytes at h9
  omega
end Go.Proofs.Ythgibmhbgfjkcaa
