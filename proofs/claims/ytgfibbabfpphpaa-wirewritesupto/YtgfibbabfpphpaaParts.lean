/- How the list of parts that came in is opened, and what the bound on the bulk gives; of no statement by themselves. -/
import Derived.Test.YtgfibbabfpphpaaBack
import Derived.Test.YtgfibbabfpphpaaOpen
import Derived.Deep.Slices
namespace Go.Proofs.Ytgfibbabfpphpaa
open Go.ChangeShapes Go.WideShapes Go.ChangeAt Go.RowKit

theorem bulk_all_len {H : Type} (l : List (DataW H)) : l.length ≤ Rows.uptoBulkAll l := by
  induction l with
  | nil => simp [Rows.uptoBulkAll]
  | cons x r ih =>
    have h1 : 1 ≤ Rows.uptoBulk x := by
      cases x with
      | lit l => cases l <;> simp [Rows.uptoBulk]
      | nil => simp [Rows.uptoBulk]
      | ptr d => simp [Rows.uptoBulk]
      | slice e s => simp [Rows.uptoBulk]
      | agg ps => simp [Rows.uptoBulk]
      | iface t d => simp [Rows.uptoBulk]
      | map es => simp [Rows.uptoBulk]
      | held h => simp [Rows.uptoBulk]
    simp only [Rows.uptoBulkAll, List.length_cons]
    omega

theorem bulk_mem {H : Type} {l : List (DataW H)} {d : DataW H} (h : d ∈ l) : Rows.uptoBulk d ≤ Rows.uptoBulkAll l := by
  induction l with
  | nil => cases h
  | cons x r ih =>
    simp only [Rows.uptoBulkAll]
    rcases List.mem_cons.1 h with e | e
    · subst e; omega
    · have := ih e; omega

/-- A list of bytes in a field: its bytes; no more than its bulk. -/
theorem open8_bulk {H : Type} {enc : TypeId × Value → H} {W : World} {fuel : Nat} {cs : List Value} {y : DataW H × List MemPlace}
    (hf : DataW.trod enc Try.prog W 0 (fun _ => true) true fuel 22 cs = some y) :
    ∃ a len cap xs, cs = [.slice a len cap] ∧ Row8 W a len cap xs ∧ Bytes8 xs ∧ len + 1 ≤ Rows.uptoBulk y.1 := by
  rcases open_ints Try.underlying22 Try.underlying5 (by kernel_rfl) hf with ⟨hcs, hy⟩ | ⟨x, len, cap, zs, hcs, _, hl, hm, hz, hx, hcell, hwz⟩
  · exact ⟨none, 0, 0, [], hcs, ⟨rfl, .inl ⟨rfl, rfl, rfl⟩⟩, Bytes8.nil, by rw [hy]; simp [Rows.uptoBulk]⟩
  · simp only [if_true] at hz
    refine ⟨_, len, cap, zs.take len, hcs, ⟨by simp; omega, .inr ⟨x, rfl, fun j u hu => ?_⟩⟩, fun n hn => ?_, ?_⟩
    · rw [List.map_take, List.getElem?_take] at hu
      split at hu
      · have hj : j < zs.length := by omega
        rw [hcell j hj]
        simpa [List.getD, hj] using hu
      · cases hu
    · have := bounds_u8 (hwz n (List.mem_of_mem_take hn))
      omega
    · rw [hx]
      have h1 := bulk_all_len (lits (H := H) .u8 (zs.take len))
      simp only [lits, List.length_map, List.length_take] at h1
      simp only [Rows.uptoBulk, lits]
      omega

theorem list_choose {α : Type} (n : Nat) (Q : Nat → α → Prop) (h : ∀ i, i < n → ∃ x, Q i x) : ∃ l : List α, l.length = n ∧ ∀ i x, l[i]? = some x → Q i x := by
  induction n with
  | zero => exact ⟨[], rfl, fun i x e => by simp at e⟩
  | succ n ih =>
    obtain ⟨l, hl, hq⟩ := ih (fun i hi => h i (by omega))
    obtain ⟨x, hx⟩ := h n (by omega)
    refine ⟨l ++ [x], by simp [hl], fun i y e => ?_⟩
    by_cases hi : i < n
    · rw [List.getElem?_append_left (by omega)] at e
      exact hq i y e
    · rw [List.getElem?_append_right (by omega)] at e
      by_cases hin : i = n
      · subst hin
        simp [hl] at e
        subst e
        exact hx
      · rw [List.getElem?_eq_none (by simp; omega)] at e
        cases e

theorem cells54 : Try.prog.cellsOf 54 = 4 := by kernel_rfl
theorem cells3 : Try.prog.cellsOf 3 = 1 := by kernel_rfl
theorem cells34 : Try.prog.cellsOf 34 = 1 := by kernel_rfl
theorem cells22 : Try.prog.cellsOf 22 = 1 := by kernel_rfl

theorem four_cells {cs : List Value} (h : cs.length = 4) : ∃ c0 c1 c2 c3, cs = [c0, c1, c2, c3] := by
  match cs, h with
  | [c0, c1, c2, c3], _ => exact ⟨c0, c1, c2, c3, rfl⟩

/-- One part, opened. -/
theorem open_part {H : Type} {enc : TypeId × Value → H} {W : World} {fuel : Nat} {cs : List Value} {y : DataW H × List MemPlace}
    (hf : DataW.trod enc Try.prog W 0 (fun _ => true) true fuel 54 cs = some y) :
    ∃ p : Pt, cs = [.int .i64 p.kind, .int .i64 p.n, .int .u64 p.v, .slice p.ad p.m p.c] ∧ p.In W ∧ p.m + 1 ≤ Rows.uptoBulk y.1 := by
  obtain ⟨xs, n, _, rfl, hl, hlen, hx⟩ := DataW.trod_struct Try.underlying54 hf
  rw [cells54] at hl
  obtain ⟨c0, c1, c2, c3, rfl⟩ := four_cells hl
  have h0 : DataW.trod enc Try.prog W 0 (fun _ => true) true n 3 [c0] = xs[0]? := by have := hx 0 _ rfl; simpa [cells3] using this
  have h1 : DataW.trod enc Try.prog W 0 (fun _ => true) true n 3 [c1] = xs[1]? := by have := hx 1 _ rfl; simpa [cells3] using this
  have h2 : DataW.trod enc Try.prog W 0 (fun _ => true) true n 34 [c2] = xs[2]? := by have := hx 2 _ rfl; simpa [cells34] using this
  have h3 : DataW.trod enc Try.prog W 0 (fun _ => true) true n 22 [c3] = xs[3]? := by have := hx 3 _ rfl; simpa [cells22] using this
  have hs : xs.length = 4 := by simpa using hlen
  obtain ⟨y0, e0⟩ : ∃ y, xs[0]? = some y := ⟨xs[0], List.getElem?_eq_getElem (by omega)⟩
  obtain ⟨y1, e1⟩ : ∃ y, xs[1]? = some y := ⟨xs[1], List.getElem?_eq_getElem (by omega)⟩
  obtain ⟨y2, e2⟩ : ∃ y, xs[2]? = some y := ⟨xs[2], List.getElem?_eq_getElem (by omega)⟩
  obtain ⟨y3, e3⟩ : ∃ y, xs[3]? = some y := ⟨xs[3], List.getElem?_eq_getElem (by omega)⟩
  rw [e0] at h0
  rw [e1] at h1
  rw [e2] at h2
  rw [e3] at h3
  obtain ⟨k, ek, _, wk⟩ := DataW.trod_int Try.underlying3 h0
  obtain ⟨m, em, _, wm⟩ := DataW.trod_int Try.underlying3 h1
  obtain ⟨v, ev, _, wv⟩ := DataW.trod_int Try.underlying34 h2
  obtain ⟨a, len, cap, zs, es, hrow, h8, hb⟩ := open8_bulk h3
  simp only [List.cons.injEq, and_true] at ek em ev es
  subst ek em ev es
  have bm := bounds_i64 wm
  have bv := bounds_u64 wv
  refine ⟨⟨k, m, v, a, len, cap, zs⟩, rfl, ⟨bm.1, bm.2, bv.1, by show v < _; omega, hrow, h8⟩, ?_⟩
  have hmem : y3.1 ∈ xs.map (·.1) := List.mem_map.2 ⟨y3, List.mem_of_getElem? e3, rfl⟩
  have := bulk_mem hmem
  simp only [Rows.uptoBulk]
  omega

theorem bytes_le8 (p : Pt) (h : p.xs.length = p.m) : p.bytes.length ≤ 8 * (p.m + 1) := by
  have hw := wid_bd p.n
  unfold Pt.bytes
  split
  · rw [lowBytes_length]; omega
  · split
    · rw [highBytes_length]; omega
    · split
      · rw [List.length_replicate]; omega
      · omega

theorem bytesOf_le {H : Type} : ∀ (ps : List Pt) (ds : List (DataW H)), ps.length = ds.length → (∀ (i : Nat) (p : Pt) (d : DataW H), ps[i]? = some p → ds[i]? = some d → p.m + 1 ≤ Rows.uptoBulk d ∧ p.xs.length = p.m) → (bytesOf ps).length ≤ 8 * Rows.uptoBulkAll ds
  | [], _, _, _ => by simp [bytesOf]
  | p :: ps, [], hl, _ => by simp at hl
  | p :: ps, d :: ds, hl, h => by
    have ih := bytesOf_le ps ds (by simpa using hl) (fun i q e hq he => h (i + 1) q e (by simpa using hq) (by simpa using he))
    have h0 := h 0 p d rfl rfl
    have h1 := bytes_le8 p h0.2
    have e : (bytesOf (p :: ps)).length = p.bytes.length + (bytesOf ps).length := by simp [bytesOf]
    rw [e]
    simp only [Rows.uptoBulkAll]
    omega

/-- The list of parts, opened. -/
theorem open_parts {H : Type} {enc : TypeId × Value → H} {W : World} {a : Option Addr} {len cap : Nat} {d : DataW H} {p : List MemPlace}
    (h : DataW.Trod enc Try.prog W 0 (fun _ => true) true 52 (.slice a len cap) d p) (hk : Rows.uptoBulk d ≤ 1048576) :
    ∃ b off ps, (0 < len → a = some ⟨b, off, none⟩) ∧ ps.length = len ∧ PartsAt W b off ps ∧ (∀ p ∈ ps, p.In W) ∧ len ≤ 1048576 ∧ (bytesOf ps).length ≤ 16777216 ∧ ∀ p ∈ ps, p.m ≤ 1048576 := by
  obtain ⟨fuel, hf⟩ := h
  rcases Deep.open_slice Try.underlying52 hf with ⟨hcs, _⟩ | ⟨x, len', cap', m, n, D, Pl, hcs, _, hl, hm, hmm, hx, hel⟩
  · simp [Value.cells] at hcs
    obtain ⟨rfl, rfl, rfl⟩ := hcs
    exact ⟨0, 0, [], fun h => by omega, rfl, fun i p e => by simp at e, fun p h => by simp at h, by omega, by simp [bytesOf], fun p h => by simp at h⟩
  · simp [Value.cells] at hcs
    obtain ⟨rfl, rfl, rfl⟩ := hcs
    simp only [if_true] at hmm
    subst hmm
    simp only [Prod.mk.injEq] at hx
    rw [hx.1] at hk
    simp only [Rows.uptoBulk] at hk
    have hlen := bulk_all_len ((List.range len).map D)
    rw [List.length_map, List.length_range] at hlen
    obtain ⟨ps, hpl, hq⟩ := list_choose len (fun i (q : Pt) => (∀ j, j < 4 → W.cell? ((x.add (i * 4)).add j) = [Value.int .i64 q.kind, .int .i64 q.n, .int .u64 q.v, .slice q.ad q.m q.c][j]?) ∧ q.In W ∧ q.m + 1 ≤ Rows.uptoBulk (D i)) (fun i hi => by
      obtain ⟨cs', h1, h2⟩ := hel i (by omega)
      rw [cells54] at h1
      obtain ⟨q, e, hin, hb⟩ := open_part h2
      subst e
      exact ⟨q, (World.cells?_some h1).2.2, hin, hb⟩)
    have hb1 : (bytesOf ps).length ≤ 8 * Rows.uptoBulkAll ((List.range len).map D) := bytesOf_le ps _ (by simp [hpl]) (fun i q d hq' hd => by
      have := hq i q hq'
      have hi : i < len := by rw [← hpl]; exact (List.getElem?_eq_some_iff.1 hq').1
      simp [hi] at hd
      subst hd
      exact ⟨this.2.2, this.2.1.row.1⟩)
    obtain ⟨b, off, sp⟩ := x
    by_cases h0 : len = 0
    · subst h0
      have : ps = [] := List.eq_nil_of_length_eq_zero hpl
      subst this
      exact ⟨0, 0, [], fun h => by omega, rfl, fun i p e => by simp at e, fun p h => by simp at h, by omega, by simp [bytesOf], fun p h => by simp at h⟩
    · obtain ⟨q0, hq0⟩ : ∃ q, ps[0]? = some q := ⟨ps[0], List.getElem?_eq_getElem (by omega)⟩
      have hs : sp = none := by
        have := (hq 0 q0 hq0).1 0 (by omega)
        simp [Addr.add] at this
        exact World.cell?_spot this
      subst hs
      refine ⟨b, off, ps, fun _ => rfl, hpl, fun i q e => ?_, fun q hm => ?_, by omega, by omega, fun q hm => ?_⟩
      · have hc := (hq i q e).1
        have ha : ∀ j, ((⟨b, off, none⟩ : Addr).add (i * 4)).add j = ⟨b, off + i * 4 + j, none⟩ := fun j => by
          rw [addr_add]
          unfold Addr.add
          split
          · rename_i hz
            have hz' : i * 4 + j = 0 := hz
            simp only [Addr.mk.injEq, true_and, and_true]
            omega
          · simp only [Addr.mk.injEq, true_and, and_true]
            omega
        have g0 := hc 0 (by omega)
        have g1 := hc 1 (by omega)
        have g2 := hc 2 (by omega)
        have g3 := hc 3 (by omega)
        rw [ha] at g0 g1 g2 g3
        exact ⟨by simpa using g0, by simpa using g1, by simpa using g2, by simpa using g3⟩
      · obtain ⟨i, hi⟩ := List.mem_iff_getElem?.1 hm
        exact (hq i q hi).2.1
      · obtain ⟨i, hi⟩ := List.mem_iff_getElem?.1 hm
        have h1 := (hq i q hi).2.2
        have hil : i < len := by rw [← hpl]; exact (List.getElem?_eq_some_iff.1 hi).1
        have h2 : Rows.uptoBulk (D i) ≤ Rows.uptoBulkAll ((List.range len).map D) := bulk_mem (List.mem_map.2 ⟨i, by simp [hil], rfl⟩)
        omega

end Go.Proofs.Ytgfibbabfpphpaa
