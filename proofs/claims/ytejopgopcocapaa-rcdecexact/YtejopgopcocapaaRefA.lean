/- The contracts of the document's adds and widens; of no statement by themselves. -/
import Derived.Test.YtejopgopcocapaaRefE
import Derived.Great.BuildSlice
namespace Go.Proofs.Ytejopgopcocapaa
open Go.RowKit
set_option linter.unusedVariables false

theorem take_at (ds ts : List Nat) (j : Nat) (hj : j < ds.length) : (ds.take (j + 1) ++ ts)[j]? = some ds[j] := by
  rw [List.getElem?_append_left (by simp; omega), List.getElem?_take]
  simp [hj]
theorem take_set (ds ts : List Nat) (j q : Nat) (hj : j < ds.length) : (ds.take (j + 1) ++ ts).set j q = ds.take j ++ q :: ts := by
  rw [List.take_succ_eq_append_getElem hj, List.append_assoc, List.set_append_right _ _ (by simp; omega)]
  have : j - (ds.take j).length = 0 := by simp; omega
  rw [this]
  rfl

theorem from_one8 (w : World) (x : Value) (t : TypeId) : From (w.alloc (.cells #[x] t)) (some ⟨w.heap.size, 0, none⟩) 1 1 1 [x] := by
  refine ⟨rfl, .inr ⟨_, rfl, fun j u hu => ?_⟩⟩
  have hb : (w.alloc (.cells #[x] t)).heap[w.heap.size]? = some (.cells #[x] t (0, 0)) := heap_alloc_last _ _
  match j, hu with
  | 0, hu =>
    simp at hu
    subst hu
    rw [addk]
    exact cell00 hb

theorem set_size (w : World) (p : Addr) (v : Value) : (w.setCell p v).heap.size = w.heap.size := by simp [World.setCell]
theorem from_set8 (w : World) (p : Addr) (v x : Value) (t : TypeId) : From ((w.setCell p v).alloc (.cells #[x] t)) (some ⟨w.heap.size, 0, none⟩) 1 1 1 [x] := by
  have h := from_one8 (w.setCell p v) x t
  rw [set_size] at h
  exact h

end Go.Proofs.Ytejopgopcocapaa
