/- How the script that came in is opened, and what the bound on the bulk gives; of no statement by themselves. -/
import Derived.Test.YtgfibbabfpphpaaReadsMain
import Derived.Test.YtgfibbabfpphpaaParts
namespace Go.Proofs.Ytgfibbabfpphpaa
open Go.ChangeShapes Go.WideShapes Go.ChangeAt Go.RowKit

theorem cells47 : Try.prog.cellsOf 47 = 5 := by kernel_rfl
theorem cells4 : Try.prog.cellsOf 4 = 1 := by kernel_rfl

theorem five_cells {cs : List Value} (h : cs.length = 5) : ∃ c0 c1 c2 c3 c4, cs = [c0, c1, c2, c3, c4] := by
  match cs, h with
  | [c0, c1, c2, c3, c4], _ => exact ⟨c0, c1, c2, c3, c4, rfl⟩

/-- One thing to be done, opened: its numbers within their kinds, its list of bytes. -/
theorem open_op {H : Type} {enc : TypeId × Value → H} {W : World} {fuel : Nat} {cs : List Value} {y : DataW H × List MemPlace}
    (hf : DataW.trod enc Try.prog W 0 (fun _ => true) true fuel 47 cs = some y) :
    ∃ o : Opv, cs = [.int .i64 o.kind, .bool o.two, .int .i64 o.n, .int .u64 o.v, .slice o.ad o.m o.c] ∧ (0 ≤ o.v ∧ o.v < 18446744073709551616) ∧ (∃ zs, Row8 W o.ad o.m o.c zs ∧ Bytes8 zs) ∧ o.m + 1 ≤ Rows.uptoBulk y.1 := by
  obtain ⟨xs, n, _, rfl, hl, hlen, hx⟩ := DataW.trod_struct Try.underlying47 hf
  rw [cells47] at hl
  obtain ⟨c0, c1, c2, c3, c4, rfl⟩ := five_cells hl
  have h0 : DataW.trod enc Try.prog W 0 (fun _ => true) true n 3 [c0] = xs[0]? := by have := hx 0 _ rfl; simpa [cells3] using this
  have h1 : DataW.trod enc Try.prog W 0 (fun _ => true) true n 4 [c1] = xs[1]? := by have := hx 1 _ rfl; simpa [cells4] using this
  have h2 : DataW.trod enc Try.prog W 0 (fun _ => true) true n 3 [c2] = xs[2]? := by have := hx 2 _ rfl; simpa [cells3] using this
  have h3 : DataW.trod enc Try.prog W 0 (fun _ => true) true n 34 [c3] = xs[3]? := by have := hx 3 _ rfl; simpa [cells34] using this
  have h4 : DataW.trod enc Try.prog W 0 (fun _ => true) true n 22 [c4] = xs[4]? := by have := hx 4 _ rfl; simpa [cells22] using this
  have hs : xs.length = 5 := by simpa using hlen
  obtain ⟨y0, e0⟩ : ∃ y, xs[0]? = some y := ⟨xs[0], List.getElem?_eq_getElem (by omega)⟩
  obtain ⟨y1, e1⟩ : ∃ y, xs[1]? = some y := ⟨xs[1], List.getElem?_eq_getElem (by omega)⟩
  obtain ⟨y2, e2⟩ : ∃ y, xs[2]? = some y := ⟨xs[2], List.getElem?_eq_getElem (by omega)⟩
  obtain ⟨y3, e3⟩ : ∃ y, xs[3]? = some y := ⟨xs[3], List.getElem?_eq_getElem (by omega)⟩
  obtain ⟨y4, e4⟩ : ∃ y, xs[4]? = some y := ⟨xs[4], List.getElem?_eq_getElem (by omega)⟩
  rw [e0] at h0
  rw [e1] at h1
  rw [e2] at h2
  rw [e3] at h3
  rw [e4] at h4
  obtain ⟨k, ek, _, _⟩ := DataW.trod_int Try.underlying3 h0
  obtain ⟨t, et, _⟩ := DataW.trod_bool Try.underlying4 h1
  obtain ⟨m, em, _, _⟩ := DataW.trod_int Try.underlying3 h2
  obtain ⟨v, ev, _, wv⟩ := DataW.trod_int Try.underlying34 h3
  obtain ⟨a, len, cap, zs, es, hrow, h8, hb⟩ := open8_bulk h4
  simp only [List.cons.injEq, and_true] at ek et em ev es
  subst ek et em ev es
  have bv := bounds_u64 wv
  refine ⟨⟨k, t, m, v, a, len, cap⟩, rfl, ⟨bv.1, by show v < _; omega⟩, ⟨zs, hrow, h8⟩, ?_⟩
  have hmem : y4.1 ∈ xs.map (·.1) := List.mem_map.2 ⟨y4, List.mem_of_getElem? e4, rfl⟩
  have := bulk_mem hmem
  simp only [Rows.uptoBulk]
  omega

/-- The script, opened. -/
theorem open_ops {H : Type} {enc : TypeId × Value → H} {W : World} {a : Option Addr} {len cap : Nat} {d : DataW H} {p : List MemPlace}
    (h : DataW.Trod enc Try.prog W 0 (fun _ => true) true 41 (.slice a len cap) d p) (hk : Rows.uptoBulk d ≤ 1048576) :
    ∃ b off os, (0 < len → a = some ⟨b, off, none⟩) ∧ os.length = len ∧ OpsAt W b off os ∧ (∀ o ∈ os, (0 ≤ o.v ∧ o.v < 18446744073709551616) ∧ ∃ zs, Row8 W o.ad o.m o.c zs ∧ Bytes8 zs) ∧ len ≤ 1048576 ∧ ∃ ds : List (DataW H), os.length = ds.length ∧ Rows.uptoBulkAll ds ≤ 1048576 ∧ ∀ (i : Nat) (o : Opv) (d : DataW H), os[i]? = some o → ds[i]? = some d → o.m + 1 ≤ Rows.uptoBulk d := by
  obtain ⟨fuel, hf⟩ := h
  rcases Deep.open_slice Try.underlying41 hf with ⟨hcs, _⟩ | ⟨x, len', cap', m, n, D, Pl, hcs, _, hl, hm, hmm, hx, hel⟩
  · simp [Value.cells] at hcs
    obtain ⟨rfl, rfl, rfl⟩ := hcs
    exact ⟨0, 0, [], fun h => by omega, rfl, fun i p e => by simp at e, fun p h => by simp at h, by omega, [], rfl, by simp [Rows.uptoBulkAll], fun i o d e => by simp at e⟩
  · simp [Value.cells] at hcs
    obtain ⟨rfl, rfl, rfl⟩ := hcs
    simp only [if_true] at hmm
    subst hmm
    simp only [Prod.mk.injEq] at hx
    rw [hx.1] at hk
    simp only [Rows.uptoBulk] at hk
    have hlen := bulk_all_len ((List.range len).map D)
    rw [List.length_map, List.length_range] at hlen
    obtain ⟨os, hpl, hq⟩ := list_choose len (fun i (q : Opv) => (∀ j, j < 5 → W.cell? ((x.add (i * 5)).add j) = [Value.int .i64 q.kind, .bool q.two, .int .i64 q.n, .int .u64 q.v, .slice q.ad q.m q.c][j]?) ∧ ((0 ≤ q.v ∧ q.v < 18446744073709551616) ∧ ∃ zs, Row8 W q.ad q.m q.c zs ∧ Bytes8 zs) ∧ q.m + 1 ≤ Rows.uptoBulk (D i)) (fun i hi => by
      obtain ⟨cs', h1, h2⟩ := hel i (by omega)
      rw [cells47] at h1
      obtain ⟨q, e, hv, hz, hb⟩ := open_op h2
      subst e
      exact ⟨q, (World.cells?_some h1).2.2, ⟨hv, hz⟩, hb⟩)
    have hds : ∀ (i : Nat) (o : Opv) (d : DataW H), os[i]? = some o → ((List.range len).map D)[i]? = some d → o.m + 1 ≤ Rows.uptoBulk d := fun i o d ho hd => by
      have := hq i o ho
      have hi : i < len := by rw [← hpl]; exact (List.getElem?_eq_some_iff.1 ho).1
      simp [hi] at hd
      subst hd
      exact this.2.2
    obtain ⟨b, off, sp⟩ := x
    by_cases h0 : len = 0
    · subst h0
      have : os = [] := List.eq_nil_of_length_eq_zero hpl
      subst this
      exact ⟨0, 0, [], fun h => by omega, rfl, fun i p e => by simp at e, fun p h => by simp at h, by omega, [], rfl, by simp [Rows.uptoBulkAll], fun i o d e => by simp at e⟩
    · obtain ⟨q0, hq0⟩ : ∃ q, os[0]? = some q := ⟨os[0], List.getElem?_eq_getElem (by omega)⟩
      have hs : sp = none := by
        have := (hq 0 q0 hq0).1 0 (by omega)
        simp [Addr.add] at this
        exact World.cell?_spot this
      subst hs
      refine ⟨b, off, os, fun _ => rfl, hpl, fun i q e => ?_, fun q hm => ?_, by omega, (List.range len).map D, by simp [hpl], by omega, hds⟩
      · have hc := (hq i q e).1
        have ha : ∀ j, ((⟨b, off, none⟩ : Addr).add (i * 5)).add j = ⟨b, off + i * 5 + j, none⟩ := fun j => by
          rw [addr_add]
          unfold Addr.add
          split
          · rename_i hz
            have hz' : i * 5 + j = 0 := hz
            simp only [Addr.mk.injEq, true_and, and_true]
            omega
          · simp only [Addr.mk.injEq, true_and, and_true]
            omega
        have g0 := hc 0 (by omega)
        have g1 := hc 1 (by omega)
        have g2 := hc 2 (by omega)
        have g3 := hc 3 (by omega)
        have g4 := hc 4 (by omega)
        rw [ha] at g0 g1 g2 g3 g4
        exact ⟨by simpa using g0, by simpa using g1, by simpa using g2, by simpa using g3, by simpa using g4⟩
      · obtain ⟨i, hi⟩ := List.mem_iff_getElem?.1 hm
        exact (hq i q hi).2.1

end Go.Proofs.Ytgfibbabfpphpaa
