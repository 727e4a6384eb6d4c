/- What zero bytes make of each bit, as arrays: the contracts of zero32, zero64; of no statement by themselves. -/
import Derived.Test.YtmgjbkgooekihaaDoorSum
import Derived.Deep.WholeRow
namespace Go.Proofs.YtmgjbkgooekihaaDoor
open Go.RowKit

theorem blk_setk {w : World} {a : Nat} {l : List Value} {t : TypeId} (h : w.heap[a]? = some (.cells l.toArray t (0, 0))) (k : Nat) (u : Value) : (w.setCell ⟨a, k, none⟩ u).heap[a]? = some (.cells (l.set k u).toArray t (0, 0)) := by
  have hlt := lt_of_blk h
  have h' : w.heap[a] = .cells l.toArray t (0, 0) := by simpa [Array.getElem?_eq_getElem hlt] using h
  show (w.heap.modify a _)[a]? = _
  rw [Array.getElem?_eq_getElem (by simpa using hlt), Array.getElem_modify_self, h']
  simp

theorem blk_keep {S : Nat → Prop} {w w' : World} {g : Nat} {o : Obj} (h : w.heap[g]? = some o) (hc : Chg S w w') (hS : ¬ S g) : w'.heap[g]? = some o := (hc.block g (lt_of_blk h) hS).trans h

/-- An array's cells. -/
def ar32 (f : Nat → Nat) : List Value := (List.range 32).map fun i => .int .u32 (f i : Nat)

theorem ar32_at (f : Nat → Nat) (k : Nat) (hk : k < 32) : (ar32 f)[k]? = some (.int .u32 (f k : Nat)) := by simp [ar32, hk]

theorem ar32_set (f : Nat → Nat) (k : Nat) (n : Nat) : (ar32 f).set k (.int .u32 (n : Nat)) = ar32 (fun i => if i = k then n else f i) := by
  apply List.ext_getElem?
  intro j
  simp only [ar32, List.getElem?_set, List.getElem?_map, List.length_map, List.length_range]
  by_cases hj : j < 32
  · by_cases e : k = j
    · subst e; simp [hj]
    · simp [hj, e, Ne.symm e]
  · by_cases e : k = j
    · subst e; simp [hj]
    · simp [hj, e]

theorem ar32_congr {f g : Nat → Nat} (h : ∀ i, i < 32 → f i = g i) : ar32 f = ar32 g := by
  unfold ar32
  exact List.map_congr_left fun i hi => by rw [h i (List.mem_range.1 hi)]

theorem ar32_cell {w : World} {g : Nat} {f : Nat → Nat} {t : TypeId} (h : w.heap[g]? = some (.cells (ar32 f).toArray t (0, 0))) (k : Nat) (hk : k < 32) : w.cell? ⟨g, k, none⟩ = some (.int .u32 (f k : Nat)) := by
  rw [cell_of_row w g k _ t (0, 0) h]
  simpa using ar32_at f k hk

theorem ar32_one (f : Nat → Nat) : (ar32 f).toArray.all (·.oneCell') = true := by
  rw [Array.all_eq_true_iff_forall_mem]
  intro v hv
  simp only [ar32, List.mem_toArray, List.mem_map] at hv
  obtain ⟨_, _, rfl⟩ := hv
  rfl

theorem ar32_size (f : Nat → Nat) : (ar32 f).toArray.size = 32 := by simp [ar32]

theorem infoA32 : (Tryd.prog.info? 63).map (·.size) = some 32 := by kernel_rfl

/-- What z zero bytes make of the bits below k; the others 0. -/
def upto32 (z k i : Nat) : Nat := if i < k then Crc.itr Crc.P32 z (2 ^ i) else 0

theorem upto32_step (z k : Nat) : (ar32 (upto32 z k)).set k (.int .u32 (Crc.itr Crc.P32 z (2 ^ k) : Nat)) = ar32 (upto32 z (k + 1)) := by
  rw [ar32_set]
  refine ar32_congr fun i _ => ?_
  unfold upto32
  by_cases e : i = k
  · subst e; simp
  · by_cases hl : i < k
    · simp [e, hl, show i < k + 1 by omega]
    · simp [e, hl, show ¬ i < k + 1 by omega]

theorem upto32_all (z : Nat) : ar32 (upto32 z 32) = ar32 (fun i => Crc.itr Crc.P32 z (2 ^ i)) :=
  ar32_congr fun i hi => by simp [upto32, hi]

theorem upto32_none (z : Nat) : ar32 (upto32 z 0) = ar32 (fun _ => 0) :=
  ar32_congr fun i _ => by simp [upto32]

theorem pow32_lt {k : Nat} (hk : k < 32) : 2 ^ k < 4294967296 := Nat.pow_lt_pow_right (a := 2) (n := 32) (by decide) hk

theorem wpow32 {k : Nat} (hk : k < 32) : IntKind.u32.wrap ((2 : Int) ^ k) = ((2 ^ k : Nat) : Int) := by
  have h := pow32_lt hk
  have e : (2 : Int) ^ k = ((2 ^ k : Nat) : Int) := by simp
  have e2 : IntKind.u32.wrap ((2 : Int) ^ k) = (2 : Int) ^ k % 4294967296 := by simp [IntKind.wrap, IntKind.signed, IntKind.bits]
  rw [e2, e]
  generalize 2 ^ k = x at *
  omega

theorem hiA32 (f : Nat → Nat) : (Tryd.prog.info? 63).map (·.size) = some (ar32 f).toArray.size := by rw [ar32_size]; exact infoA32

set_option maxHeartbeats 1000000 in
theorem zero32_any (w : World) (hT : Tab w) :
    Calls Tryd.prog 32 #[] w fun e w' => e = .returned (.agg (ar32 (fun i => Crc.itr Crc.P32 8 (2 ^ i))).toArray) ∧ Chg (fun _ => False) w w' := by
  have HZ : Hid (ar32 (fun _ => 0) = ar32 (upto32 8 0)) := (upto32_none 8).symm
  go_enter Tryd.func32, Tryd.ntmps32
  go_wp2_with fail
  go_loopw [3] (fun i wr => ∃ k : Nat, k ≤ 32 ∧ i = .int .i64 k ∧ wr.heap[w.heap.size]? = some (.cells (ar32 (fun _ => 0)).toArray 63 (0, 0)) ∧ wr.heap[w.heap.size + 1]? = some (.cells (ar32 (upto32 8 k)).toArray 63 (0, 0)) ∧ Chg (fun _ => False) w wr) (fun i _ => 32 - (intOf i).toNat)
  case atStart =>
    refine ⟨0, by omega, rfl, ?_, ?_, ((Chg.refl _ w).alloc _).alloc _⟩
    · rw [Below.heap_alloc _ _ _ (by simp), heap_alloc_last]
      rfl
    · rw [← HZ.out, show w.heap.size + 1 = (w.alloc (.cells (ar32 (fun _ => 0)).toArray 63)).heap.size by simp]
      exact heap_alloc_last _ _
  case round =>
    obtain ⟨k, hk, rfl, h0, h1, hc⟩ := hrel
    by_cases hlt : k < 32
    · have c1 := ar32_cell h1 k hlt
      have f1 : wr.frozen? ⟨w.heap.size + 1, k, none⟩ = false := by simp [World.frozen?, h1]
      have hp := pow32_lt hlt
      have hTr := hT.new hc
      have hw := wpow32 hlt
      have HS : Hid ((wr.setCell ⟨w.heap.size + 1, k, none⟩ (.int .u32 (Crc.itr Crc.P32 8 (2 ^ k) : Nat))).heap[w.heap.size + 1]? = some (.cells (ar32 (upto32 8 (k + 1))).toArray 63 (0, 0))) := by
        show _ = _
        rw [blk_setk h1, upto32_step]
      have H0 : Hid ((wr.setCell ⟨w.heap.size + 1, k, none⟩ (.int .u32 (Crc.itr Crc.P32 8 (2 ^ k) : Nat))).heap[w.heap.size]? = some (.cells (ar32 (fun _ => 0)).toArray 63 (0, 0))) := by
        show _ = _
        rw [Below.heap_setCell _ _ _ _ (by simp), h0]
      have HC : Hid (Chg (fun _ => False) w (wr.setCell ⟨w.heap.size + 1, k, none⟩ (.int .u32 (Crc.itr Crc.P32 8 (2 ^ k) : Nat)))) := hc.setCell (.inr (Nat.le_succ _)) _
      have HP : Hid (Crc.put Crc.P32 (2 ^ k) 0 = Crc.itr Crc.P32 8 (2 ^ k)) := Crc.put_zero _ _
      clear hT h0 h1 hc
      generalize 2 ^ k = x at *
      go_wp2_with fail
      refine (put32_any x 0 wr hTr hp (by decide)).mono ?_
      rintro e w1 ⟨rfl, rfl⟩
      rw [HP.out]
      generalize Crc.itr Crc.P32 8 x = y at *
      go_wp2
      go_roundw
      case rel => exact ⟨k + 1, by omega, by go_num, H0.out, HS.out, HC.out⟩
      case measure => simp [intOf]; omega
    · obtain rfl : k = 32 := by omega
      rw [upto32_all] at h1
      clear hT
      go_wp2_with (first
        | refine wpList_load_row rfl 63 (.tmp 1) rfl (w.heap.size + 1) rfl 63 _ (0, 0) _ h1 Tryd.underlying63 rfl (hiA32 _) ?_
        | refine wpList_store_row rfl 63 (.tmp 0) (.tmp 12) rfl w.heap.size _ rfl rfl 63 _ h0 (hiA32 _) (by rw [ar32_size, ar32_size]) (ar32_one _) ?_)
      (try simp only [Exit.inBlock, Exit.then])
      refine bodyPost_ret (results_cell_row rfl _ _ w.heap.size 63 (ar32 (fun i => Crc.itr Crc.P32 8 (2 ^ i))).toArray (0, 0) _ rfl (setRow_heap _ _ _ _ _ _ h0) Tryd.underlying63 rfl (hiA32 _)) rfl ⟨rfl, ?_⟩
      exact hc.trans (T := fun b => b = w.heap.size) ⟨rfl, rfl, rfl, by simp, fun b _ hb => setRow_other _ _ _ _ hb⟩ (fun b hb => .inr (by omega))
/-- An array's cells. -/
def ar64 (f : Nat → Nat) : List Value := (List.range 64).map fun i => .int .u64 (f i : Nat)

theorem ar64_at (f : Nat → Nat) (k : Nat) (hk : k < 64) : (ar64 f)[k]? = some (.int .u64 (f k : Nat)) := by simp [ar64, hk]

theorem ar64_set (f : Nat → Nat) (k : Nat) (n : Nat) : (ar64 f).set k (.int .u64 (n : Nat)) = ar64 (fun i => if i = k then n else f i) := by
  apply List.ext_getElem?
  intro j
  simp only [ar64, List.getElem?_set, List.getElem?_map, List.length_map, List.length_range]
  by_cases hj : j < 64
  · by_cases e : k = j
    · subst e; simp [hj]
    · simp [hj, e, Ne.symm e]
  · by_cases e : k = j
    · subst e; simp [hj]
    · simp [hj, e]

theorem ar64_congr {f g : Nat → Nat} (h : ∀ i, i < 64 → f i = g i) : ar64 f = ar64 g := by
  unfold ar64
  exact List.map_congr_left fun i hi => by rw [h i (List.mem_range.1 hi)]

theorem ar64_cell {w : World} {g : Nat} {f : Nat → Nat} {t : TypeId} (h : w.heap[g]? = some (.cells (ar64 f).toArray t (0, 0))) (k : Nat) (hk : k < 64) : w.cell? ⟨g, k, none⟩ = some (.int .u64 (f k : Nat)) := by
  rw [cell_of_row w g k _ t (0, 0) h]
  simpa using ar64_at f k hk

theorem ar64_one (f : Nat → Nat) : (ar64 f).toArray.all (·.oneCell') = true := by
  rw [Array.all_eq_true_iff_forall_mem]
  intro v hv
  simp only [ar64, List.mem_toArray, List.mem_map] at hv
  obtain ⟨_, _, rfl⟩ := hv
  rfl

theorem ar64_size (f : Nat → Nat) : (ar64 f).toArray.size = 64 := by simp [ar64]

theorem infoA64 : (Tryd.prog.info? 68).map (·.size) = some 64 := by kernel_rfl

/-- What z zero bytes make of the bits below k; the others 0. -/
def upto64 (z k i : Nat) : Nat := if i < k then Crc.itr Crc.P64 z (2 ^ i) else 0

theorem upto64_step (z k : Nat) : (ar64 (upto64 z k)).set k (.int .u64 (Crc.itr Crc.P64 z (2 ^ k) : Nat)) = ar64 (upto64 z (k + 1)) := by
  rw [ar64_set]
  refine ar64_congr fun i _ => ?_
  unfold upto64
  by_cases e : i = k
  · subst e; simp
  · by_cases hl : i < k
    · simp [e, hl, show i < k + 1 by omega]
    · simp [e, hl, show ¬ i < k + 1 by omega]

theorem upto64_all (z : Nat) : ar64 (upto64 z 64) = ar64 (fun i => Crc.itr Crc.P64 z (2 ^ i)) :=
  ar64_congr fun i hi => by simp [upto64, hi]

theorem upto64_none (z : Nat) : ar64 (upto64 z 0) = ar64 (fun _ => 0) :=
  ar64_congr fun i _ => by simp [upto64]

theorem pow64_lt {k : Nat} (hk : k < 64) : 2 ^ k < 18446744073709551616 := Nat.pow_lt_pow_right (a := 2) (n := 64) (by decide) hk

theorem wpow64 {k : Nat} (hk : k < 64) : IntKind.u64.wrap ((2 : Int) ^ k) = ((2 ^ k : Nat) : Int) := by
  have h := pow64_lt hk
  have e : (2 : Int) ^ k = ((2 ^ k : Nat) : Int) := by simp
  have e2 : IntKind.u64.wrap ((2 : Int) ^ k) = (2 : Int) ^ k % 18446744073709551616 := by simp [IntKind.wrap, IntKind.signed, IntKind.bits]
  rw [e2, e]
  generalize 2 ^ k = x at *
  omega

theorem hiA64 (f : Nat → Nat) : (Tryd.prog.info? 68).map (·.size) = some (ar64 f).toArray.size := by rw [ar64_size]; exact infoA64

set_option maxHeartbeats 1000000 in
theorem zero64_any (w : World) (hT : Tab w) :
    Calls Tryd.prog 35 #[] w fun e w' => e = .returned (.agg (ar64 (fun i => Crc.itr Crc.P64 8 (2 ^ i))).toArray) ∧ Chg (fun _ => False) w w' := by
  have HZ : Hid (ar64 (fun _ => 0) = ar64 (upto64 8 0)) := (upto64_none 8).symm
  go_enter Tryd.func35, Tryd.ntmps35
  go_wp2_with fail
  go_loopw [3] (fun i wr => ∃ k : Nat, k ≤ 64 ∧ i = .int .i64 k ∧ wr.heap[w.heap.size]? = some (.cells (ar64 (fun _ => 0)).toArray 68 (0, 0)) ∧ wr.heap[w.heap.size + 1]? = some (.cells (ar64 (upto64 8 k)).toArray 68 (0, 0)) ∧ Chg (fun _ => False) w wr) (fun i _ => 64 - (intOf i).toNat)
  case atStart =>
    refine ⟨0, by omega, rfl, ?_, ?_, ((Chg.refl _ w).alloc _).alloc _⟩
    · rw [Below.heap_alloc _ _ _ (by simp), heap_alloc_last]
      rfl
    · rw [← HZ.out, show w.heap.size + 1 = (w.alloc (.cells (ar64 (fun _ => 0)).toArray 68)).heap.size by simp]
      exact heap_alloc_last _ _
  case round =>
    obtain ⟨k, hk, rfl, h0, h1, hc⟩ := hrel
    by_cases hlt : k < 64
    · have c1 := ar64_cell h1 k hlt
      have f1 : wr.frozen? ⟨w.heap.size + 1, k, none⟩ = false := by simp [World.frozen?, h1]
      have hp := pow64_lt hlt
      have hTr := hT.new hc
      have hw := wpow64 hlt
      have HS : Hid ((wr.setCell ⟨w.heap.size + 1, k, none⟩ (.int .u64 (Crc.itr Crc.P64 8 (2 ^ k) : Nat))).heap[w.heap.size + 1]? = some (.cells (ar64 (upto64 8 (k + 1))).toArray 68 (0, 0))) := by
        show _ = _
        rw [blk_setk h1, upto64_step]
      have H0 : Hid ((wr.setCell ⟨w.heap.size + 1, k, none⟩ (.int .u64 (Crc.itr Crc.P64 8 (2 ^ k) : Nat))).heap[w.heap.size]? = some (.cells (ar64 (fun _ => 0)).toArray 68 (0, 0))) := by
        show _ = _
        rw [Below.heap_setCell _ _ _ _ (by simp), h0]
      have HC : Hid (Chg (fun _ => False) w (wr.setCell ⟨w.heap.size + 1, k, none⟩ (.int .u64 (Crc.itr Crc.P64 8 (2 ^ k) : Nat)))) := hc.setCell (.inr (Nat.le_succ _)) _
      have HP : Hid (Crc.put Crc.P64 (2 ^ k) 0 = Crc.itr Crc.P64 8 (2 ^ k)) := Crc.put_zero _ _
      clear hT h0 h1 hc
      generalize 2 ^ k = x at *
      go_wp2_with fail
      refine (put64_any x 0 wr hTr hp (by decide)).mono ?_
      rintro e w1 ⟨rfl, rfl⟩
      rw [HP.out]
      generalize Crc.itr Crc.P64 8 x = y at *
      go_wp2
      go_roundw
      case rel => exact ⟨k + 1, by omega, by go_num, H0.out, HS.out, HC.out⟩
      case measure => simp [intOf]; omega
    · obtain rfl : k = 64 := by omega
      rw [upto64_all] at h1
      clear hT
      go_wp2_with (first
        | refine wpList_load_row rfl 68 (.tmp 1) rfl (w.heap.size + 1) rfl 68 _ (0, 0) _ h1 Tryd.underlying68 rfl (hiA64 _) ?_
        | refine wpList_store_row rfl 68 (.tmp 0) (.tmp 12) rfl w.heap.size _ rfl rfl 68 _ h0 (hiA64 _) (by rw [ar64_size, ar64_size]) (ar64_one _) ?_)
      (try simp only [Exit.inBlock, Exit.then])
      refine bodyPost_ret (results_cell_row rfl _ _ w.heap.size 68 (ar64 (fun i => Crc.itr Crc.P64 8 (2 ^ i))).toArray (0, 0) _ rfl (setRow_heap _ _ _ _ _ _ h0) Tryd.underlying68 rfl (hiA64 _)) rfl ⟨rfl, ?_⟩
      exact hc.trans (T := fun b => b = w.heap.size) ⟨rfl, rfl, rfl, by simp, fun b _ hb => setRow_other _ _ _ _ hb⟩ (fun b hb => .inr (by omega))
end Go.Proofs.YtmgjbkgooekihaaDoor
