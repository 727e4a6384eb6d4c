/- Small laws on lists of bytes: new ones, cut ones, as strings, as they come in; of no statement by themselves. -/
import Derived.Test.YtkjjcdkobapedaaDoorLaid
import Derived.Laws.BytesArg
import Derived.Deep.QuietTactic
import Derived.BigQuiet
namespace Go.Proofs.YtkjjcdkobapedaaDoor
open Go.ChangeShapes Go.WideShapes Go.ChangeAt Go.RowKit

theorem oneCells (l : List Int) : ∀ u ∈ l.map (Value.int .u8), u.oneCell' = true := by
  intro u hu
  obtain ⟨x, _, rfl⟩ := List.mem_map.1 hu
  rfl

theorem chg_one (S : Nat → Prop) (w : World) (o : Obj) : Chg S w (w.alloc o) := (Chg.refl S w).alloc o
theorem chg_drewN {S : Nat → Prop} (w : World) (k : Nat) : Chg S w (w.drewN k) := ⟨rfl, rfl, rfl, Nat.le_refl _, fun _ _ _ => rfl⟩
theorem chg_then {S : Nat → Prop} {w w1 w2 : World} (hc : Chg S w w1) (hd : Chg (fun _ => False) w1 w2) : Chg S w w2 := hc.trans hd (fun _ f => f.elim)
theorem blk_keep {S : Nat → Prop} {w w' : World} {g : Nat} {o : Obj} (h : w.heap[g]? = some o) (hc : Chg S w w') (hS : ¬ S g) : w'.heap[g]? = some o := (hc.block g (lt_of_blk h) hS).trans h

theorem row8_one (w : World) (x : Int) (t : TypeId) : Row8 (w.alloc (.cells #[.int .u8 x] t)) (some ⟨w.heap.size, 0, none⟩) 1 1 [x] := by
  refine ⟨rfl, .inr ⟨_, rfl, ?_⟩⟩
  intro j u hu
  match j, hu with
  | 0, hu => simp at hu; subst hu; simp [Addr.add]

/-- A new list of bytes: the block and that it is whole. -/
theorem row8_blk {w : World} {g : Nat} {xs : List Int} (h : w.heap[g]? = some (.cells (cells8 xs).toArray 5 (0, 0))) (m : Nat) (hm : xs.length = m) (c : Nat) : Row8 w (some ⟨g, 0, none⟩) m c xs := by
  refine ⟨hm, .inr ⟨_, rfl, fun j u hu => ?_⟩⟩
  have hadd : (⟨g, 0, none⟩ : Addr).add j = ⟨g, j, none⟩ := by unfold Addr.add; split <;> simp_all
  rw [hadd, cell_of_row w g j _ 5 (0, 0) h]
  simpa [cells8] using hu

theorem own_of_blk {w : World} {B q n : Nat} {ys : List Int} (h : w.heap[q]? = some (.cells (cells8 ys).toArray 5 (0, 0))) (hB : B ≤ q) (hn : ys.length = n) (hm : n ≤ 140737488355328) : w.ownsRow B 5 1 (.slice (some ⟨q, 0, none⟩) n n) n (cells8 ys) := by
  refine ⟨by simp [cells8, hn], .inr ⟨q, n, (cells8 ys).toArray, rfl, hB, h, Nat.le_refl _, by unfold maxLen; omega, by simp [cells8, hn], ?_⟩⟩
  rw [Nat.mul_one, List.take_of_length_le (by simp [cells8, hn])]

theorem own_row8c {w : World} {B : Nat} {v : Value} {n : Nat} {bs : List Int} (h : w.ownsRow B 5 1 v n (cells8 bs)) : ∃ ad c, v = .slice ad n c ∧ Row8 w ad n c bs ∧ n ≤ c := by
  have hl : bs.length = n := by simpa [cells8] using h.1
  rcases h.2 with ⟨rfl, rfl⟩ | ⟨g, cap, cur, rfl, _, _, hnc, _⟩
  · exact ⟨none, 0, rfl, ⟨hl, .inl ⟨rfl, rfl, rfl⟩⟩, Nat.le_refl _⟩
  · exact ⟨_, cap, rfl, ⟨hl, .inr ⟨_, rfl, fun j u hu => h.cells (g := g) rfl j u hu⟩⟩, hnc⟩

theorem cells8_append (xs ys : List Int) : cells8 xs ++ cells8 ys = cells8 (xs ++ ys) := by simp [cells8]

theorem row8_alloc {w : World} {ad : Option Addr} {m c : Nat} {xs : List Int} (h : Row8 w ad m c xs) (o : Obj) : Row8 (w.alloc o) ad m c xs :=
  row8_keep h (chg_one (fun _ => False) w o) (fun _ _ f => f)

theorem row8_chg {w w' : World} {ad : Option Addr} {m c : Nat} {xs : List Int} (h : Row8 w ad m c xs) (hc : Chg (fun _ => False) w w') : Row8 w' ad m c xs :=
  row8_keep h hc (fun _ _ f => f)

/-- A list that came in lies in blocks that were there, if it has a byte; so no new block is one of its own. -/
theorem row8_old {w w' : World} {S : Nat → Prop} {ad : Option Addr} {m c : Nat} {xs : List Int} (h : Row8 w ad m c xs) (hc : Chg S w w') (hS : ∀ k, k < w.heap.size → ¬ S k) : Row8 w' ad m c xs := by
  refine ⟨h.1, ?_⟩
  rcases h.2 with e | ⟨x, rfl, hx⟩
  · exact .inl e
  · refine .inr ⟨x, rfl, fun j u hu => ?_⟩
    have h0 := hx j u hu
    have hlt := World.block_lt_of_cell? w _ h0
    rw [World.cell?_of_block (w := w) (hc.block _ hlt (hS _ hlt))]
    exact h0

theorem row8_take {w : World} {ad : Option Addr} {m c : Nat} {xs : List Int} (h : Row8 w ad m c xs) (r : Nat) (hr : r ≤ m) : Row8 w ad r c (xs.take r) := by
  have hl := h.1
  refine ⟨by simp; omega, ?_⟩
  rcases h.2 with ⟨rfl, rfl, rfl⟩ | ⟨x, rfl, hx⟩
  · exact .inl ⟨rfl, by omega, rfl⟩
  · refine .inr ⟨x, rfl, fun j u hu => hx j u ?_⟩
    rw [List.map_take, List.getElem?_take] at hu
    split at hu
    · exact hu
    · cases hu

/-- 'string(b)' of a list of bytes, in every later draw. -/
theorem conv8 {w : World} {ad : Option Addr} {m c : Nat} {xs : List Int} (h : Row8 w ad m c xs) (k : Nat) :
    (convert 24 9 (.slice ad m c)).run Tryd.prog (w.drewN k) = .ok (.string (strOfNums xs)) (w.drewN k) := by
  rcases h.2 with ⟨rfl, rfl, rfl⟩ | ⟨x, rfl, hx⟩
  · have e : xs = [] := List.eq_nil_of_length_eq_zero h.1
    subst e
    exact run_convert_bytes_nil (P := Tryd.prog) (w.drewN k) 24 5 Tryd.underlying24 Tryd.underlying5 0 0 9 Tryd.underlying9
  · have hl : (loadCells x m).run Tryd.prog (w.drewN k) = .ok (xs.map (Value.int .u8)).toArray (w.drewN k) := by
      have := run_loadCells_list (P := Tryd.prog) (w.drewN k) x (xs.map (Value.int .u8)) hx
      simpa [h.1] using this
    rw [run_convert_bytes_string (w.drewN k) 24 9 5 _ m c Tryd.underlying24 Tryd.underlying5 Tryd.underlying9, run_bytesToString (w.drewN k) _ m c xs hl, foldl_push_bytes]
    simp [strOfNums, ByteArray.empty, ByteArray.emptyWithCapacity]
    rfl

theorem conv8_here {w : World} {ad : Option Addr} {m c : Nat} {xs : List Int} (h : Row8 w ad m c xs) :
    (convert 24 9 (.slice ad m c)).run Tryd.prog w = .ok (.string (strOfNums xs)) w := conv8 h 0

theorem num_quiet (e : Int) (w : World) (n : Nat) : Calls Tryd.prog 11 #[.int .i64 e] (w.drewN n) fun x w'' => x = .returned (.int .i64 e) ∧ ∃ m, w'' = w.drewN m :=
  (num_any e (w.drewN n)).mono fun _ _ ⟨he, hm⟩ => ⟨he, n, hm.symm⟩

theorem byte_inj {a b : Int} (ha : 0 ≤ a ∧ a ≤ 255) (hb : 0 ≤ b ∧ b ≤ 255) (h : UInt8.ofNat a.toNat = UInt8.ofNat b.toNat) : a = b := by
  have h2 := congrArg UInt8.toNat h
  simp only [UInt8.toNat_ofNat'] at h2
  omega

theorem map_inj8 : ∀ {xs ys : List Int}, Bytes8 xs → Bytes8 ys → (xs.map fun n => UInt8.ofNat n.toNat) = (ys.map fun n => UInt8.ofNat n.toNat) → xs = ys
  | [], [], _, _, _ => rfl
  | [], y :: ys, _, _, h => by simp at h
  | x :: xs, [], _, _, h => by simp at h
  | x :: xs, y :: ys, hx, hy, h => by
    simp only [List.map_cons, List.cons.injEq] at h
    rw [byte_inj (hx x (by simp)) (hy y (by simp)) h.1, map_inj8 (fun z hz => hx z (by simp [hz])) (fun z hz => hy z (by simp [hz])) h.2]

/-- Two lists of bytes that are one string are one list. -/
theorem str_inj {xs ys : List Int} (hx : Bytes8 xs) (hy : Bytes8 ys) (h : (strOfNums xs).toList = (strOfNums ys).toList) : xs = ys :=
  map_inj8 hx hy (by rw [← strOfNums_data, ← strOfNums_data, ← ByteArray.toList_eq, ← ByteArray.toList_eq, h])

/-- A number with its highest bit taken away. -/
theorem mask_bd {a : Int} (w0 : (Lit.int .u64 a).wf = true) : 0 ≤ bits .and .u64 a 9223372036854775807 ∧ bits .and .u64 a 9223372036854775807 ≤ 9223372036854775807 := by
  obtain ⟨b0, b1⟩ := bounds_u64 w0
  rw [u64_and a _ b0 (by omega) (by omega) (by omega)]
  have := Nat.and_le_right (n := a.toNat) (m := (9223372036854775807 : Int).toNat)
  omega

theorem bytes5 : Tryd.prog.bytesOf 5 = 1 := by kernel_rfl

/-- A list of bytes that came in: its bytes, each within its kind; its capacity within the form's own reach. -/
theorem open8 {H : Type} {enc : TypeId × Value → H} {W : World} {a : Option Addr} {len cap : Nat} {d : DataW H} {p : List MemPlace}
    (h : DataW.Trod enc Tryd.prog W 0 (fun _ => true) true 24 (.slice a len cap) d p) (hsz : ∀ elems spare, d = .slice elems spare → (elems.length + spare.length) * Tryd.prog.bytesOf 5 ≤ reachBytes) :
    ∃ xs, Row8 W a len cap xs ∧ Bytes8 xs ∧ len ≤ cap ∧ cap ≤ 140737488351232 := by
  obtain ⟨fuel, hf⟩ := h
  rcases open_ints Tryd.underlying24 Tryd.underlying5 (by kernel_rfl) hf with ⟨hcs, _⟩ | ⟨x, l, c, zs, hcs, _, hl, hm, hz, hx, hcell, hwz⟩
  · simp [Value.cells] at hcs
    obtain ⟨rfl, rfl, rfl⟩ := hcs
    exact ⟨[], ⟨rfl, .inl ⟨rfl, rfl, rfl⟩⟩, Bytes8.nil, Nat.le_refl _, by omega⟩
  · simp [Value.cells] at hcs
    obtain ⟨rfl, rfl, rfl⟩ := hcs
    simp only [Prod.mk.injEq] at hx
    have hs := hsz _ _ hx.1
    simp only [if_true] at hz
    rw [bytes5] at hs
    simp only [lits, List.length_map, List.length_take, List.length_drop, reachBytes] at hs
    refine ⟨zs.take len, ⟨by simp; omega, .inr ⟨x, rfl, fun j u hu => ?_⟩⟩, fun n hn => ?_, hl, by omega⟩
    · rw [List.map_take, List.getElem?_take] at hu
      split at hu
      · have hj : j < zs.length := by omega
        rw [hcell j hj]
        simpa [List.getD, hj] using hu
      · cases hu
    · have := bounds_u8 (hwz n (List.mem_of_mem_take hn))
      omega

end Go.Proofs.YtkjjcdkobapedaaDoor
