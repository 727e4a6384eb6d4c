/- Lists of bytes as lists of natural numbers ('up'), pieces in a row, lists that were just made; of no statement by themselves. -/
import Derived.Test.YtnedllhlmddmoabDoorTab
import Derived.Lib.SlBytesConst
namespace Go.Proofs.YtnedllhlmddmoabDoor
open Go.RowKit

/-- Natural numbers as the model's. -/
def up (ns : List Nat) : List Int := ns.map fun (n : Nat) => (n : Int)

/-- Each is a byte. -/
def Byt (ns : List Nat) : Prop := ∀ x ∈ ns, x < 256

theorem Byt.nil : Byt [] := fun x h => by cases h
theorem Byt.append {a b : List Nat} (ha : Byt a) (hb : Byt b) : Byt (a ++ b) := fun x h => by
  rcases List.mem_append.1 h with h | h
  · exact ha x h
  · exact hb x h
theorem Byt.take {a : List Nat} (h : Byt a) (k : Nat) : Byt (a.take k) := fun x hx => h x (List.mem_of_mem_take hx)
theorem Byt.drop {a : List Nat} (h : Byt a) (k : Nat) : Byt (a.drop k) := fun x hx => h x (List.mem_of_mem_drop hx)
theorem Byt.at {a : List Nat} (h : Byt a) (k : Nat) (hk : k < a.length) : a[k] < 256 := h _ (List.getElem_mem _)
theorem Byt.zeros (n : Nat) : Byt (List.replicate n 0) := fun x h => by obtain ⟨_, rfl⟩ := List.mem_replicate.1 h; omega

theorem up_length (ns : List Nat) : (up ns).length = ns.length := by simp [up]
theorem up_append (a b : List Nat) : up (a ++ b) = up a ++ up b := by simp [up]
theorem up_take (a : List Nat) (k : Nat) : up (a.take k) = (up a).take k := by simp [up, List.map_take]
theorem up_drop (a : List Nat) (k : Nat) : up (a.drop k) = (up a).drop k := by simp [up, List.map_drop]
theorem up_byts (ns : List Nat) : (up ns).map (Value.int .u8) = byts ns := by simp [up, byts]

theorem cellN {w : World} {x : Addr} {ns : List Nat} (h : ∀ j u, ((up ns).map (Value.int .u8))[j]? = some u → w.cell? (x.add j) = some u) (k : Nat) (hk : k < ns.length) : w.cell? (x.add k) = some (.int .u8 (ns[k] : Nat)) :=
  h k _ (by simp [up, hk])

/-- A piece: a slice value and the bytes that it tells. -/
def Piece (w : World) (v : Value) (ns : List Nat) : Prop := ∃ a m c, v = .slice a m c ∧ Row8 w a m c (up ns) ∧ Byt ns ∧ m ≤ c

/-- Pieces in a row. -/
def Pieces (w : World) (x : Addr) (nss : List (List Nat)) : Prop := ∀ k (hk : k < nss.length), ∃ v, w.cell? (x.add k) = some v ∧ Piece w v nss[k]

theorem flat_take (nss : List (List Nat)) (k : Nat) (hk : k < nss.length) : (nss.take (k + 1)).flatten = (nss.take k).flatten ++ nss[k] := by
  rw [List.take_succ_eq_append_getElem hk, List.flatten_append, List.flatten_singleton]

theorem Pieces.byt {w : World} {x : Addr} {nss : List (List Nat)} (h : Pieces w x nss) (k : Nat) : Byt (nss.take k).flatten := fun y hy => by
  obtain ⟨l, hl, hy⟩ := List.mem_flatten.1 hy
  obtain ⟨j, hj, rfl⟩ := List.mem_iff_getElem.1 (List.mem_of_mem_take hl)
  obtain ⟨v, _, a, m, c, _, _, hb, _⟩ := h j hj
  exact hb y hy

theorem Piece.keep {w w' : World} {v : Value} {ns : List Nat} (h : Piece w v ns) (hc : Chg (fun _ => False) w w') : Piece w' v ns := by
  obtain ⟨a, m, c, e, hr, hb, hm⟩ := h
  exact ⟨a, m, c, e, row8_chg hr hc, hb, hm⟩

theorem Pieces.keep {w w' : World} {x : Addr} {nss : List (List Nat)} (h : Pieces w x nss) (hc : Chg (fun _ => False) w w') : Pieces w' x nss := by
  intro k hk
  obtain ⟨v, h1, hp⟩ := h k hk
  refine ⟨_, ?_, hp.keep hc⟩
  have hlt := World.block_lt_of_cell? w _ h1
  rw [World.cell?_of_block (w := w) (hc.block _ hlt (fun f => f))]
  exact h1

theorem pieces_one {w : World} {v : Value} {ns : List Nat} (t : TypeId) (h : Piece w v ns) : Pieces (w.alloc (.cells #[v] t)) ⟨w.heap.size, 0, none⟩ [ns] := by
  intro k hk
  obtain rfl : k = 0 := by simpa using hk
  exact ⟨v, by simp [Addr.add], h.keep (chg_one w _)⟩

theorem pieces_two {w : World} {v1 v2 : Value} {n1 n2 : List Nat} (t : TypeId) (h1 : Piece w v1 n1) (h2 : Piece w v2 n2) : Pieces (w.alloc (.cells #[v1, v2] t)) ⟨w.heap.size, 0, none⟩ [n1, n2] := by
  intro k hk
  match k, hk with
  | 0, _ => exact ⟨v1, by simp [Addr.add], h1.keep (chg_one w _)⟩
  | 1, _ => exact ⟨v2, by simp [Addr.add], h2.keep (chg_one w _)⟩

theorem pieces_three {w : World} {v1 v2 v3 : Value} {n1 n2 n3 : List Nat} (t : TypeId) (h1 : Piece w v1 n1) (h2 : Piece w v2 n2) (h3 : Piece w v3 n3) : Pieces (w.alloc (.cells #[v1, v2, v3] t)) ⟨w.heap.size, 0, none⟩ [n1, n2, n3] := by
  intro k hk
  match k, hk with
  | 0, _ => exact ⟨v1, by simp [Addr.add], h1.keep (chg_one w _)⟩
  | 1, _ => exact ⟨v2, by simp [Addr.add], h2.keep (chg_one w _)⟩
  | 2, _ => exact ⟨v3, by simp [Addr.add], h3.keep (chg_one w _)⟩

/-- A list of bytes that was just made. -/
theorem row8_new (w : World) (xs : List Int) (t : TypeId) (fr : Nat × Nat) (m c : Nat) (hm : xs.length = m) : Row8 (w.alloc (.cells (xs.map (Value.int .u8)).toArray t fr)) (some ⟨w.heap.size, 0, none⟩) m c xs := by
  refine ⟨hm, .inr ⟨_, rfl, fun j u hu => ?_⟩⟩
  have hadd : (⟨w.heap.size, 0, none⟩ : Addr).add j = ⟨w.heap.size, j, none⟩ := by unfold Addr.add; split <;> simp_all
  rw [hadd, cell_of_row _ w.heap.size j _ t fr (heap_alloc_last w _)]
  simpa using hu

/-- A whole block of bytes as a list. -/
theorem row8_blk {w : World} {g : Nat} {ns : List Nat} {t : TypeId} {fr : Nat × Nat} (h : w.heap[g]? = some (.cells (byts ns).toArray t fr)) (m c : Nat) (hm : ns.length = m) : Row8 w (some ⟨g, 0, none⟩) m c (up ns) := by
  refine ⟨by rw [up_length]; exact hm, .inr ⟨_, rfl, fun j u hu => ?_⟩⟩
  have hadd : (⟨g, 0, none⟩ : Addr).add j = ⟨g, j, none⟩ := by unfold Addr.add; split <;> simp_all
  rw [up_byts] at hu
  rw [hadd, cell_of_row _ g j _ t fr h]
  simpa using hu

/-- The bytes of a constant text: the walk's conversion, at the world in which they are laid. -/
theorem conv_const (w : World) (xs : List Int) (n c g : Nat) (hg : g = w.heap.size) :
    (convert 24 24 (.slice (some ⟨g, 0, none⟩) n c)).run Tryd.prog (w.alloc (.cells (xs.map (Value.int .u8)).toArray 5)) = .ok (.slice (some ⟨g, 0, none⟩) n c) (w.alloc (.cells (xs.map (Value.int .u8)).toArray 5 (xs.length, xs.length + 1))) := by
  subst hg
  have := Lib.run_convert_bytes_const (P := Tryd.prog) w 24 5 (xs.map (Value.int .u8)).toArray n c Tryd.underlying24 Tryd.underlying5
  simpa using this
end Go.Proofs.YtnedllhlmddmoabDoor
