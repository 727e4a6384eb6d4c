/- What the readings of the arguments give: lists of questions, of bytes, of truths; a plan; of no statement by themselves. -/
import Derived.Test.YtejopgopcocapaaLawE
import Derived.ProofKit
import Derived.OpenShut
import Derived.ShutString
import Derived.ChangeOld
import Derived.SizedLaws
import Derived.Below
import Derived.Deep.Slices
namespace Go.Proofs.Ytejopgopcocapaa
open Go.ChangeShapes Go.WideShapes Go.ChangeAt Go.RowKit
set_option linter.unusedVariables false

theorem cellsA : Try.prog.cellsOf 40 = 4 := by kernel_rfl
theorem cellsI : Try.prog.cellsOf 3 = 1 := by kernel_rfl
theorem cellsU : Try.prog.cellsOf 38 = 1 := by kernel_rfl
theorem cellsBool : Try.prog.cellsOf 4 = 1 := by kernel_rfl
theorem cellsSA : Try.prog.cellsOf 23 = 1 := by kernel_rfl
theorem cellsPlan : Try.prog.cellsOf 25 = 2 := by kernel_rfl
theorem bytesA : Try.prog.bytesOf 40 = 32 := by kernel_rfl
theorem bytesY : Try.prog.bytesOf 5 = 1 := by kernel_rfl
theorem four_cells {cs : List Value} (h : cs.length = 4) : ∃ c0 c1 c2 c3, cs = [c0, c1, c2, c3] := by
  match cs, h with
  | [c0, c1, c2, c3], _ => exact ⟨c0, c1, c2, c3, rfl⟩
theorem two_cells {cs : List Value} (h : cs.length = 2) : ∃ c0 c1, cs = [c0, c1] := by
  match cs, h with
  | [c0, c1], _ => exact ⟨c0, c1, rfl⟩
theorem addadd (b off i j : Nat) : ((⟨b, off, none⟩ : Addr).add i).add j = ⟨b, off + i + j, none⟩ := by rw [addk, addk]

theorem open_ask {H : Type} {enc : TypeId × Value → H} {W : World} {fuel : Nat} {cs : List Value} {y : DataW H × List MemPlace}
    (hf : DataW.trod enc Try.prog W 0 (fun _ => true) true fuel 40 cs = some y) : ∃ q : Q, cs = q.cells ∧ q.v ≤ 4294967295 := by
  obtain ⟨xs, n, _, rfl, hl, hlen, hx⟩ := DataW.trod_struct Try.underlying40 hf
  rw [cellsA] at hl
  obtain ⟨c0, c1, c2, c3, rfl⟩ := four_cells hl
  have h0 : DataW.trod enc Try.prog W 0 (fun _ => true) true n 4 [c0] = xs[0]? := by have := hx 0 _ rfl; simpa [cellsI, cellsBool, cellsU] using this
  have h1 : DataW.trod enc Try.prog W 0 (fun _ => true) true n 3 [c1] = xs[1]? := by have := hx 1 _ rfl; simpa [cellsI, cellsBool, cellsU] using this
  have h2 : DataW.trod enc Try.prog W 0 (fun _ => true) true n 3 [c2] = xs[2]? := by have := hx 2 _ rfl; simpa [cellsI, cellsBool, cellsU] using this
  have h3 : DataW.trod enc Try.prog W 0 (fun _ => true) true n 38 [c3] = xs[3]? := by have := hx 3 _ rfl; simpa [cellsI, cellsBool, cellsU] using this
  have hs : xs.length = 4 := by simpa using hlen
  obtain ⟨y0, e0⟩ : ∃ y, xs[0]? = some y := ⟨xs[0], List.getElem?_eq_getElem (by omega)⟩
  obtain ⟨y1, e1⟩ : ∃ y, xs[1]? = some y := ⟨xs[1], List.getElem?_eq_getElem (by omega)⟩
  obtain ⟨y2, e2⟩ : ∃ y, xs[2]? = some y := ⟨xs[2], List.getElem?_eq_getElem (by omega)⟩
  obtain ⟨y3, e3⟩ : ∃ y, xs[3]? = some y := ⟨xs[3], List.getElem?_eq_getElem (by omega)⟩
  rw [e0] at h0
  rw [e1] at h1
  rw [e2] at h2
  rw [e3] at h3
  obtain ⟨z0, q0, _⟩ := DataW.trod_bool Try.underlying4 h0
  obtain ⟨z1, q1, _, w1⟩ := DataW.trod_int Try.underlying3 h1
  obtain ⟨z2, q2, _, w2⟩ := DataW.trod_int Try.underlying3 h2
  obtain ⟨z3, q3, _, w3⟩ := DataW.trod_int Try.underlying38 h3
  simp only [List.cons.injEq, and_true] at q0 q1 q2 q3
  subst q0 q1 q2 q3
  have b3 := bounds_u32 w3
  refine ⟨⟨z0, z1, z2, z3.toNat⟩, ?_, by show z3.toNat ≤ _; omega⟩
  unfold Q.cells
  rw [show ((z3.toNat : Nat) : Int) = z3 by omega]

set_option maxRecDepth 100000 in
theorem open_asks {H : Type} {enc : TypeId × Value → H} {W : World} {a : Option Addr} {len cap : Nat} {d : DataW H} {p : List MemPlace}
    (h : DataW.Trod enc Try.prog W 0 (fun _ => true) true 23 (.slice a len cap) d p) : ∃ l : List Q, Asks W a l ∧ l.length = len ∧ (∀ N, (∀ elems spare, d = .slice elems spare → elems.length + spare.length ≤ N) → len ≤ N) := by
  obtain ⟨fuel, hf⟩ := h
  rcases Deep.open_slice Try.underlying23 hf with ⟨hcs, _⟩ | ⟨x, len', cap', m, n, D, Pl, hcs, _, hl, hm, hmm, hx, hel⟩
  · simp [Value.cells] at hcs
    obtain ⟨rfl, rfl, rfl⟩ := hcs
    exact ⟨[], fun k q hk => by simp at hk, rfl, fun _ _ => Nat.zero_le _⟩
  · simp [Value.cells] at hcs
    obtain ⟨rfl, rfl, rfl⟩ := hcs
    simp only [if_true] at hmm
    subst hmm
    simp only [Prod.mk.injEq] at hx
    have hb : ∀ N, (∀ elems spare, d = .slice elems spare → elems.length + spare.length ≤ N) → len ≤ N := fun N hN => by
      have hs := hN _ _ hx.1
      simp only [List.length_map, List.length_range] at hs
      omega
    have hq : ∀ k, ∃ q : Q, k < len → q.v ≤ 4294967295 ∧ W.cells? 0 (x.add (k * 4)) 4 = some q.cells := fun k => by
      by_cases hk : k < len
      · obtain ⟨cs', h1, h2⟩ := hel k (by omega)
        rw [cellsA] at h1
        obtain ⟨q, e, hv⟩ := open_ask h2
        subst e
        exact ⟨q, fun _ => ⟨hv, h1⟩⟩
      · exact ⟨⟨false, 0, 0, 0⟩, fun f => absurd f hk⟩
    obtain ⟨f, hf⟩ := Classical.axiomOfChoice hq
    refine ⟨(List.range len).map f, fun k q hk => ?_, by simp, hb⟩
    have hkl : k < len := by
      have := (List.getElem?_eq_some_iff.1 hk).1
      simpa using this
    have hfk : f k = q := by simpa [hkl] using hk
    obtain ⟨hv, h1⟩ := hf k hkl
    rw [hfk] at hv h1
    have hc := (World.cells?_some h1).2.2
    obtain ⟨g, off, sp⟩ := x
    have g0 := hc 0 (by simp)
    have g1 := hc 1 (by simp)
    have g2 := hc 2 (by simp)
    have g3 := hc 3 (by simp)
    have hs : sp = none := by
      obtain ⟨_, q1⟩ := hf 0 (by omega)
      have q0 := (World.cells?_some q1).2.2 0 (by simp)
      simp [Addr.add] at q0
      exact World.cell?_spot q0
    subst hs
    have q0 : W.cell? ⟨g, off + k * 4, none⟩ = some (.bool q.d) := by have := addadd g off (k * 4) 0; rw [Nat.add_zero] at this; rw [← this]; exact g0
    exact ⟨g, off, rfl, q0, by rw [← addadd g off (k * 4) 1]; exact g1, by rw [← addadd g off (k * 4) 2]; exact g2, by rw [← addadd g off (k * 4) 3]; exact g3, hv⟩

theorem open_bytes8 {H : Type} {enc : TypeId × Value → H} {W : World} {a : Option Addr} {len cap : Nat} {d : DataW H} {p : List MemPlace}
    (h : DataW.Trod enc Try.prog W 0 (fun _ => true) true 22 (.slice a len cap) d p) : ∃ bs : List Nat, Row8 W a len cap (nums bs) ∧ Rc.Dig bs ∧ len ≤ cap ∧ (a = none → len = 0 ∧ cap = 0) ∧ (∀ N, (∀ elems spare, d = .slice elems spare → elems.length + spare.length ≤ N) → len ≤ N ∧ cap ≤ N) := by
  obtain ⟨fuel, hf⟩ := h
  rcases open_ints Try.underlying22 Try.underlying5 (by kernel_rfl) hf with ⟨hcs, _⟩ | ⟨x, l, c, zs, hcs, _, hl, hm, hz, hx, hcell, hwz⟩
  · simp [Value.cells] at hcs
    obtain ⟨rfl, rfl, rfl⟩ := hcs
    exact ⟨[], ⟨rfl, .inl ⟨rfl, rfl, rfl⟩⟩, fun x hx => (List.not_mem_nil hx).elim, Nat.le_refl _, fun _ => ⟨rfl, rfl⟩, fun _ _ => ⟨Nat.zero_le _, Nat.zero_le _⟩⟩
  · simp [Value.cells] at hcs
    obtain ⟨rfl, rfl, rfl⟩ := hcs
    simp only [Prod.mk.injEq] at hx
    simp only [if_true] at hz
    have hN : ∀ N, (∀ elems spare, d = .slice elems spare → elems.length + spare.length ≤ N) → len ≤ N ∧ cap ≤ N := fun N hN => by
      have hs := hN _ _ hx.1
      simp only [lits, List.length_map, List.length_take, List.length_drop] at hs
      omega
    have hb : ∀ z ∈ zs, 0 ≤ z ∧ z < 256 := fun z hz => by
      have := bounds_u8 (hwz z hz)
      omega
    refine ⟨(zs.take len).map Int.toNat, ⟨?_, .inr ⟨x, rfl, fun j u hu => ?_⟩⟩, ?_, hl, (fun f => by cases f), hN⟩
    · rw [nums_len, List.length_map, List.length_take]; omega
    · simp only [nums, List.getElem?_map, Option.map_eq_some_iff] at hu
      obtain ⟨n1, ⟨n2, ⟨z, hz1, rfl⟩, rfl⟩, rfl⟩ := hu
      rw [List.getElem?_take] at hz1
      split at hz1
      · rename_i hj
        have hjz : j < zs.length := (List.getElem?_eq_some_iff.1 hz1).1
        have hze : zs[j] = z := (List.getElem?_eq_some_iff.1 hz1).2
        have g := hcell j hjz
        have := hb z (by rw [← hze]; exact List.getElem_mem hjz)
        rw [show ((z.toNat : Nat) : Int) = z by omega]
        rw [g, ← hze]
        simp [List.getD, hjz]
      · cases hz1
    · intro y hy
      simp only [List.mem_map] at hy
      obtain ⟨z, hz1, rfl⟩ := hy
      have := hb z (List.mem_of_mem_take hz1)
      omega

/-- A list of truths in memory. -/
def Flags (w : World) (a : Option Addr) (l : List Bool) : Prop := ∀ (k : Nat) (f : Bool), l[k]? = some f → ∃ b off, a = some ⟨b, off, none⟩ ∧ w.cell? ⟨b, off + k, none⟩ = some (.bool f)
theorem Flags.new {w w' : World} {a : Option Addr} {l : List Bool} (h : Flags w a l) (hc : Chg (fun _ => False) w w') : Flags w' a l := fun k f hk => by
  obtain ⟨b, off, e, h1⟩ := h k f hk
  exact ⟨b, off, e, cell_chg h1 hc⟩
theorem open_flags {H : Type} {enc : TypeId × Value → H} {W : World} {a : Option Addr} {len cap : Nat} {d : DataW H} {p : List MemPlace}
    (h : DataW.Trod enc Try.prog W 0 (fun _ => true) true 44 (.slice a len cap) d p) : ∃ l : List Bool, Flags W a l ∧ l.length = len ∧ len ≤ maxLen := by
  obtain ⟨fuel, hf⟩ := h
  rcases Deep.open_slice1 Try.underlying44 cellsBool hf with ⟨hcs, _⟩ | ⟨x, len', cap', m, n, V, D, Pl, hcs, _, hl, hm, hmm, hx, hel⟩
  · simp [Value.cells] at hcs
    obtain ⟨rfl, rfl, rfl⟩ := hcs
    exact ⟨[], fun k q hk => by simp at hk, rfl, Nat.zero_le _⟩
  · simp [Value.cells] at hcs
    obtain ⟨rfl, rfl, rfl⟩ := hcs
    simp only [if_true] at hmm
    subst hmm
    have hq : ∀ k, ∃ q : Bool, k < len → W.cell? (x.add k) = some (.bool q) := fun k => by
      by_cases hk : k < len
      · obtain ⟨h1, h2⟩ := hel k (by omega)
        obtain ⟨z0, q0, _⟩ := DataW.trod_bool Try.underlying4 h2
        simp only [List.cons.injEq, and_true] at q0
        exact ⟨z0, fun _ => by rw [← q0]; exact h1⟩
      · exact ⟨false, fun f => absurd f hk⟩
    obtain ⟨f, hf⟩ := Classical.axiomOfChoice hq
    refine ⟨(List.range len).map f, fun k q hk => ?_, by simp, Nat.le_trans hl hm⟩
    have hkl : k < len := by
      have := (List.getElem?_eq_some_iff.1 hk).1
      simpa using this
    have hfk : f k = q := by simpa [hkl] using hk
    have h1 := hf k hkl
    rw [hfk] at h1
    obtain ⟨g, off, sp⟩ := x
    have hs : sp = none := by
      have q1 := hf 0 (by omega)
      simp [Addr.add] at q1
      exact World.cell?_spot q1
    subst hs
    rw [addk] at h1
    exact ⟨g, off, rfl, h1⟩

/-- A plan handed in by value. -/
theorem open_plan {H : Type} {enc : TypeId × Value → H} {W : World} {r : Reach} {b0 : Nat} {v : Value} {d : DataW H} {p : List MemPlace} (hv : Value.okWide Try.prog W r b0 25 v)
    (h : DataW.Trod enc Try.prog W 0 (fun _ => true) true 25 v d p) : ∃ (n : Int) (av : Option Addr) (L cv : Nat) (e1 e2 : DataW H) (p2 : List MemPlace), v = .agg #[.int .i64 n, .slice av L cv] ∧ d = .agg [e1, e2] ∧ DataW.Trod enc Try.prog W 0 (fun _ => true) true 23 (.slice av L cv) e2 p2 := by
  obtain ⟨cs, rfl, hsz⟩ := okWide_struct Try.underlying25 hv
  rw [cellsPlan] at hsz
  obtain ⟨c0, c1, hcs⟩ := two_cells (cs := cs.toList) (by simpa using hsz)
  obtain rfl : cs = #[c0, c1] := by cases cs; simpa using hcs
  obtain ⟨fuel, hf⟩ := h
  obtain ⟨xs, n, _, hx0, hl, hlen, hx⟩ := DataW.trod_struct Try.underlying25 hf
  have h0 : DataW.trod enc Try.prog W 0 (fun _ => true) true n 3 [c0] = xs[0]? := by have := hx 0 _ rfl; simpa [Value.cells, cellsI, cellsSA] using this
  have h1 : DataW.trod enc Try.prog W 0 (fun _ => true) true n 23 [c1] = xs[1]? := by have := hx 1 _ rfl; simpa [Value.cells, cellsI, cellsSA] using this
  have hs : xs.length = 2 := by simpa using hlen
  obtain ⟨y0, y1, rfl⟩ : ∃ y0 y1, xs = [y0, y1] := by
    match xs, hs with
    | [y0, y1], _ => exact ⟨y0, y1, rfl⟩
  simp only [List.getElem?_cons_zero, List.getElem?_cons_succ] at h0 h1
  obtain ⟨z0, q0, _, _⟩ := DataW.trod_int Try.underlying3 h0
  simp only [List.cons.injEq, and_true] at q0
  subst q0
  simp only [Prod.mk.injEq] at hx0
  have hy : ∃ a l c, c1 = .slice a l c := by
    rcases Deep.open_slice Try.underlying23 h1 with ⟨hcs, _⟩ | ⟨x, len', cap', m, n, D, Pl, hcs, _⟩
    · simp only [List.cons.injEq, and_true] at hcs
      exact ⟨_, _, _, hcs⟩
    · simp only [List.cons.injEq, and_true] at hcs
      exact ⟨_, _, _, hcs⟩
  obtain ⟨a, l, c, rfl⟩ := hy
  exact ⟨z0, a, l, c, y0.1, y1.1, y1.2, rfl, by rw [hx0.1]; rfl, n, by simpa [Value.cells] using h1⟩
end Go.Proofs.Ytejopgopcocapaa
