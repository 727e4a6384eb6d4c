/- The walk through the statement WireReads, of no statement by itself. -/
import Derived.Test.YtgfibbabfpphpaaReadsAny
namespace Go.Proofs.Ytgfibbabfpphpaa
open Go.RowKit

/-- One thing to be done, as it lies in memory. -/
structure Opv where
  kind : Int
  two : Bool
  n : Int
  v : Int
  ad : Option Addr
  m : Nat
  c : Nat

/-- The script lies from an address on. -/
def OpsAt (w : World) (b off : Nat) (os : List Opv) : Prop :=
  ∀ i o, os[i]? = some o → w.cell? ⟨b, off + i * 5, none⟩ = some (.int .i64 o.kind) ∧ w.cell? ⟨b, off + i * 5 + 1, none⟩ = some (.bool o.two) ∧ w.cell? ⟨b, off + i * 5 + 2, none⟩ = some (.int .i64 o.n) ∧ w.cell? ⟨b, off + i * 5 + 3, none⟩ = some (.int .u64 o.v) ∧ w.cell? ⟨b, off + i * 5 + 4, none⟩ = some (.slice o.ad o.m o.c)

theorem OpsAt.at {w w' : World} {b off : Nat} {os : List Opv} (h : OpsAt w b off os) (hc : Chg (fun k => w.heap.size ≤ k) w w') (i : Nat) (o : Opv) (hi : os[i]? = some o) :
    w'.cell? ⟨b, off + i * 5, none⟩ = some (.int .i64 o.kind) ∧ w'.cell? ⟨b, off + i * 5 + 1, none⟩ = some (.bool o.two) ∧ w'.cell? ⟨b, off + i * 5 + 2, none⟩ = some (.int .i64 o.n) ∧ w'.cell? ⟨b, off + i * 5 + 3, none⟩ = some (.int .u64 o.v) ∧ w'.cell? ⟨b, off + i * 5 + 4, none⟩ = some (.slice o.ad o.m o.c) := by
  obtain ⟨c0, c1, c2, c3, c4⟩ := h i o hi
  have hb : b < w.heap.size := World.block_lt_of_cell? w _ c0
  have hbl := hc.below (Nat.le_refl _) (fun k f => f)
  exact ⟨(hbl.cell hb).trans c0, (hbl.cell hb).trans c1, (hbl.cell hb).trans c2, (hbl.cell hb).trans c3, (hbl.cell hb).trans c4⟩

/-- The other pair of readers is as it was. -/
theorem Two.beside {B : Nat} {w w' : World} {a g ra rg a2 g2 ra2 rg2 off off2 : Nat} {xs ys : List Int} {lv : Value} {hs : List Hd} (h1 : Two B w a g ra rg xs off) (h2 : Two B w a2 g2 ra2 rg2 ys off2) (hbk : Bk B w lv hs) (na : a2 ≠ a) (nr : ra2 ≠ ra)
    (hc : Chg (fun k => k = a ∨ k = ra ∨ lv.ownBlock = some k) w w') : Two B w' a2 g2 ra2 rg2 ys off2 := by
  obtain ⟨ad, c, hr⟩ := h1.rr
  obtain ⟨ad2, c2, hr2⟩ := h2.rr
  have b1 := h1.rd.blk
  have b2 := hr.blk
  have d1 := h2.rd.blk
  have d2 := hr2.blk
  have d3 := h2.rd.row
  obtain ⟨cur, d4, _⟩ := hr2.row
  have hl : ∀ b, lv.ownBlock = some b → ∃ cs, w.heap[b]? = some (.cells cs 81 (0, 0)) := fun b e => own_blk hbk.book e
  refine h2.keep hc (fun f => ?_) (fun f => ?_) (fun f => ?_) (fun f => ?_)
  · rcases f with f | f | f
    · exact na f
    · rw [f, b2] at d1; simp at d1
    · obtain ⟨cs, e⟩ := hl _ f; rw [e] at d1; simp at d1
  · rcases f with f | f | f
    · rw [f, b1] at d3; simp at d3
    · rw [f, b2] at d3; simp at d3
    · obtain ⟨cs, e⟩ := hl _ f; rw [e] at d3; simp at d3
  · rcases f with f | f | f
    · rw [f, b1] at d2; simp at d2
    · exact nr f
    · obtain ⟨cs, e⟩ := hl _ f; rw [e] at d2; simp at d2
  · rcases f with f | f | f
    · rw [f, b1] at d4; simp at d4
    · rw [f, b2] at d4; simp at d4
    · obtain ⟨cs, e⟩ := hl _ f; rw [e] at d4; simp at d4

/-- The document's new reader. -/
theorem newRR {B gf : Nat} {w : World} {v : Value} {n : Nat} {xs : List Int} {cf : Array Value} (h : w.ownsRow B 5 1 v n (cells8 xs)) (hB : B ≤ w.heap.size) (hf : w.heap[gf]? = some (.cells cf 5 (0, 0))) (hgf : B ≤ gf) (hn : n ≤ 140737488000000) :
    ∃ rg ad c, v = .slice ad n c ∧ RR B (w.alloc (.cells #[.slice ad n c, .int .i64 0] 66)) w.heap.size rg xs 0 ad c := by
  have hl : xs.length = n := by simpa [cells8] using h.1
  rcases h.2 with ⟨rfl, rfl⟩ | ⟨g, cap, cur, rfl, hbg, hg, hnc, hcm, hcs, htake⟩
  · have hx : xs = [] := List.eq_nil_of_length_eq_zero hl
    subst hx
    refine ⟨gf, none, 0, rfl, hB, hgf, heap_alloc_new w _, ⟨cf, ?_, by simp [cells8]⟩, fun w2 _ => ⟨rfl, .inl ⟨rfl, rfl, rfl⟩⟩, by simp, by simp, by simp⟩
    rw [Below.heap_alloc _ _ _ (lt_of_blk hf)]; exact hf
  · rw [Nat.mul_one] at htake
    refine ⟨g, some ⟨g, 0, none⟩, cap, rfl, hB, hbg, ?_, ⟨cur, ?_, by rw [hl]; exact htake⟩, fun w2 h2 => ?_, by omega, by omega, by omega⟩
    · rw [hl]; exact heap_alloc_new w _
    · rw [Below.heap_alloc _ _ _ (lt_of_blk hg)]; exact hg
    · obtain ⟨cur2, hg2, ht2⟩ := h2
      rw [List.drop_zero, Nat.sub_zero]
      refine ⟨rfl, .inr ⟨_, rfl, fun j u hu => ?_⟩⟩
      have hadd : (⟨g, 0, none⟩ : Addr).add j = ⟨g, j, none⟩ := by unfold Addr.add; split <;> simp_all
      rw [hadd, cell_of_row w2 g j cur2 5 (0, 0) hg2]
      have hu2 : (cells8 xs)[j]? = some u := hu
      rw [← ht2, List.getElem?_take] at hu2
      split at hu2
      · simpa using hu2
      · cases hu2

end Go.Proofs.Ytgfibbabfpphpaa
