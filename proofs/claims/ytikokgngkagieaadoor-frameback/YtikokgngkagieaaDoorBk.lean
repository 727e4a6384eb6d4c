/- What the book's texts stand on: lists of bytes as cells, strings made of them; of no statement by itself. -/
import Derived.Test.YtikokgngkagieaaDoorMem
import Derived.Laws.BytesArg
namespace Go.Proofs.YtikokgngkagieaaDoor.Bk
open Go.RowKit

def cells8 (xs : List Int) : List Value := xs.map (Value.int .u8)
theorem oneCells (l : List Int) : ∀ u ∈ l.map (Value.int .u8), u.oneCell' = true := by
  intro u hu
  obtain ⟨x, _, rfl⟩ := List.mem_map.1 hu
  rfl
theorem info5 : (Tryd.prog.info? 5).map (fun i => (i.zero, i.size, i.bytes)) = some (some (.int .u8 0), 1, 1) := by kernel_rfl
theorem chg_one (S : Nat → Prop) (w : World) (o : Obj) : Chg S w (w.alloc o) := (Chg.refl S w).alloc o
theorem chg_then {S : Nat → Prop} {a b c : World} (h : Chg S a b) (k : Chg (fun _ => False) b c) : Chg S a c := h.trans k (fun _ f => f.elim)
theorem row8_one (w : World) (x : Int) (t : TypeId) : Row8 (w.alloc (.cells #[.int .u8 x] t)) (some ⟨w.heap.size, 0, none⟩) 1 1 [x] := by
  refine ⟨rfl, .inr ⟨_, rfl, ?_⟩⟩
  intro j u hu
  match j, hu with
  | 0, hu => simp at hu; subst hu; simp [Addr.add]
/-- 'string(b)' of a list of bytes, in every later draw. -/
theorem conv8 {w : World} {ad : Option Addr} {m c : Nat} {xs : List Int} (h : Row8 w ad m c xs) (k : Nat) :
    (convert 22 9 (.slice ad m c)).run Tryd.prog (w.drewN k) = .ok (.string (strOfNums xs)) (w.drewN k) := by
  rcases h.2 with ⟨rfl, rfl, rfl⟩ | ⟨x, rfl, hx⟩
  · have e : xs = [] := List.eq_nil_of_length_eq_zero h.1
    subst e
    exact run_convert_bytes_nil (P := Tryd.prog) (w.drewN k) 22 5 Tryd.underlying22 Tryd.underlying5 0 0 9 Tryd.underlying9
  · have hl : (loadCells x m).run Tryd.prog (w.drewN k) = .ok (xs.map (Value.int .u8)).toArray (w.drewN k) := by
      have := run_loadCells_list (P := Tryd.prog) (w.drewN k) x (xs.map (Value.int .u8)) hx
      simpa [h.1] using this
    rw [run_convert_bytes_string (w.drewN k) 22 9 5 _ m c Tryd.underlying22 Tryd.underlying5 Tryd.underlying9, run_bytesToString (w.drewN k) _ m c xs hl, foldl_push_bytes]
    simp [strOfNums, ByteArray.empty, ByteArray.emptyWithCapacity]
    rfl
theorem conv8_here {w : World} {ad : Option Addr} {m c : Nat} {xs : List Int} (h : Row8 w ad m c xs) :
    (convert 22 9 (.slice ad m c)).run Tryd.prog w = .ok (.string (strOfNums xs)) w := conv8 h 0
theorem row8_alloc {w : World} {ad : Option Addr} {m c : Nat} {xs : List Int} (h : Row8 w ad m c xs) (o : Obj) : Row8 (w.alloc o) ad m c xs :=
  row8_keep h (chg_one (fun _ => False) w o) (fun _ _ f => f)
theorem row8_chg {w w' : World} {ad : Option Addr} {m c : Nat} {xs : List Int} (h : Row8 w ad m c xs) (hc : Chg (fun _ => False) w w') : Row8 w' ad m c xs :=
  row8_keep h hc (fun _ _ f => f)
theorem chg_none {S : Nat → Prop} {w w' : World} (hc : Chg (fun _ => False) w w') : Chg S w w' := hc.mono (fun _ f => f.elim)
theorem row8_cells {w : World} {ad : Option Addr} {n c : Nat} {ys : List Int} (h : Row8 w ad n c ys) (hn : 1 ≤ n) : ∃ x, ad = some x ∧ ∀ k, k < n → w.cell? (x.add k) = some (.int .u8 (ys.getD k 0)) := by
  rcases h.2 with ⟨_, e, _⟩ | ⟨x, e, hx⟩
  · omega
  · exact ⟨x, e, fun k hk => hx k _ (by simp [List.getD, show k < ys.length by have := h.1; omega])⟩
end Go.Proofs.YtikokgngkagieaaDoor.Bk
