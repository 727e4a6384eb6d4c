/- The contracts of twice32, twice64, zeros32, zeros64: what n bytes 0 make of a number; of no statement by themselves. -/
import Derived.Test.YtmgjbkgooekihaaDoorThru
namespace Go.Proofs.YtmgjbkgooekihaaDoor
open Go.RowKit

theorem chg_setRow {w wr : World} {g : Nat} {cs : Array Value} (hc : Chg (fun _ => False) w wr) (hg : w.heap.size ≤ g) : Chg (fun _ => False) w (wr.setRow g cs) :=
  hc.trans (T := fun b => b = g) ⟨rfl, rfl, rfl, by simp, fun b _ hb => setRow_other _ _ _ _ hb⟩ (fun b hb => .inr (by omega))

theorem chg_then {S : Nat → Prop} {w w1 w2 : World} (hc : Chg S w w1) (hd : Chg (fun _ => False) w1 w2) : Chg S w w2 := hc.trans hd (fun _ f => f.elim)

set_option maxHeartbeats 1000000 in
theorem twice32_any (z : Nat) (w : World) :
    Calls Tryd.prog 34 #[.agg (ar32 (fun i => Crc.itr Crc.P32 z (2 ^ i))).toArray] w fun e w' => e = .returned (.agg (ar32 (fun i => Crc.itr Crc.P32 (z + z) (2 ^ i))).toArray) ∧ Chg (fun _ => False) w w' := by
  have HZ : Hid (ar32 (fun _ => 0) = ar32 (upto32 (z + z) 0)) := (upto32_none (z + z)).symm
  have HI : Hid (∀ k : Nat, k < 32 → ∀ w : World, (Instr.index 63 (.agg (ar32 (fun i => Crc.itr Crc.P32 z (2 ^ i))).toArray) (.int .i64 k)).run Tryd.prog w = .ok (.int .u32 (Crc.itr Crc.P32 z (2 ^ k) : Nat)) w) := fun k hk w => idx32 _ k hk w
  have HT : Hid (∀ (s : Nat) (w : World), s < 4294967296 → Calls Tryd.prog 33 #[.agg (ar32 (fun i => Crc.itr Crc.P32 z (2 ^ i))).toArray, .int .u32 s] w fun e w' => e = .returned (.int .u32 (Crc.itr Crc.P32 z s : Nat)) ∧ Chg (fun _ => False) w w') := fun s w hs => through32_any z s w hs
  have HS : Hid ((Tryd.prog.info? 63).map (·.size) = some (ar32 (fun i => Crc.itr Crc.P32 z (2 ^ i))).toArray.size) := hiA32 _
  generalize (ar32 (fun i => Crc.itr Crc.P32 z (2 ^ i))).toArray = A at *
  go_enter Tryd.func34, Tryd.ntmps34
  have hb0 : ∀ o o' : Obj, (((w.alloc (.cells A 63)).alloc o).alloc o').heap[w.heap.size]? = some (.cells A 63) := fun o o' => by
    rw [Below.heap_alloc _ _ _ (by simp; omega), Below.heap_alloc _ _ _ (by simp), heap_alloc_last]
  go_wp2_with (first
        | refine wpList_load_row rfl 63 (.tmp 1) rfl w.heap.size rfl 63 A (0, 0) _ (hb0 _ _) Tryd.underlying63 rfl HS.out ?_)
  clear hb0
  go_loopw [7] (fun i wr => ∃ k : Nat, k ≤ 32 ∧ i = .int .i64 k ∧ wr.heap[w.heap.size]? = some (.cells A 63 (0, 0)) ∧ wr.heap[w.heap.size + 1]? = some (.cells (ar32 (fun _ => 0)).toArray 63 (0, 0)) ∧ wr.heap[w.heap.size + 1 + 1]? = some (.cells (ar32 (upto32 (z + z) k)).toArray 63 (0, 0)) ∧ Chg (fun _ => False) w wr) (fun i _ => 32 - (intOf i).toNat)
  case atStart =>
    refine ⟨0, by omega, rfl, ?_, ?_, ?_, (((Chg.refl _ w).alloc _).alloc _).alloc _⟩
    · rw [Below.heap_alloc _ _ _ (by simp; omega), Below.heap_alloc _ _ _ (by simp), heap_alloc_last]
    · rw [Below.heap_alloc _ _ _ (by simp), show w.heap.size + 1 = (w.alloc (.cells A 63)).heap.size by simp]
      exact heap_alloc_last _ _
    · rw [← HZ.out, show w.heap.size + 1 + 1 = ((w.alloc (.cells A 63)).alloc (.cells (ar32 (fun _ => 0)).toArray 63)).heap.size by simp]
      exact heap_alloc_last _ _
  case round =>
    obtain ⟨k, hk, rfl, h0, h1, h2, hc⟩ := hrel
    by_cases hlt : k < 32
    · have hx := HI.out k hlt
      have hy : Crc.itr Crc.P32 z (2 ^ k) < 4294967296 := Crc.itr_lt (w := 32) Crc.p32_lt z (pow32_lt hlt)
      have HU := upto32_step (z + z) k
      rw [Crc.itr_add] at HU
      have HV : Hid ((ar32 (upto32 (z + z) k)).set k (.int .u32 (Crc.itr Crc.P32 z (Crc.itr Crc.P32 z (2 ^ k)) : Nat)) = ar32 (upto32 (z + z) (k + 1))) := HU
      clear HU
      generalize Crc.itr Crc.P32 z (2 ^ k) = y at *
      go_wp2_with (first
        | refine wpList_load_row rfl 63 (.tmp 1) rfl w.heap.size rfl 63 A (0, 0) _ h0 Tryd.underlying63 rfl HS.out ?_)
      refine (HT.out y wr hy).mono ?_
      rintro e w1 ⟨rfl, hc1⟩
      have g0 := blk_keep h0 hc1 (fun f => f)
      have g1 := blk_keep h1 hc1 (fun f => f)
      have g2 := blk_keep h2 hc1 (fun f => f)
      have hcw := chg_then hc hc1
      have c1 := ar32_cell g2 k hlt
      have f1 : w1.frozen? ⟨w.heap.size + 1 + 1, k, none⟩ = false := by simp [World.frozen?, g2]
      generalize Crc.itr Crc.P32 z y = t at *
      have H2 : Hid ((w1.setCell ⟨w.heap.size + 1 + 1, k, none⟩ (.int .u32 (t : Nat))).heap[w.heap.size + 1 + 1]? = some (.cells (ar32 (upto32 (z + z) (k + 1))).toArray 63 (0, 0))) := by
        show _ = _
        rw [blk_setk g2, HV.out]
      have H0 : Hid ((w1.setCell ⟨w.heap.size + 1 + 1, k, none⟩ (.int .u32 (t : Nat))).heap[w.heap.size]? = some (.cells A 63 (0, 0))) := by
        show _ = _
        rw [Below.heap_setCell _ _ _ _ (by simp; omega), g0]
      have H1 : Hid ((w1.setCell ⟨w.heap.size + 1 + 1, k, none⟩ (.int .u32 (t : Nat))).heap[w.heap.size + 1]? = some (.cells (ar32 (fun _ => 0)).toArray 63 (0, 0))) := by
        show _ = _
        rw [Below.heap_setCell _ _ _ _ (by simp), g1]
      have HC : Hid (Chg (fun _ => False) w (w1.setCell ⟨w.heap.size + 1 + 1, k, none⟩ (.int .u32 (t : Nat)))) := hcw.setCell (.inr (by show _ ≤ w.heap.size + 1 + 1; omega)) _
      clear g0 g1 g2 h0 h1 h2 hc hc1 hcw hx
      go_wp2
      go_roundw
      case rel => exact ⟨k + 1, by omega, by go_num, H0.out, H1.out, H2.out, HC.out⟩
      case measure => simp [intOf]; omega
    · obtain rfl : k = 32 := by omega
      rw [upto32_all] at h2
      go_wp2_with (first
        | refine wpList_load_row rfl 63 (.tmp 3) rfl (w.heap.size + 1 + 1) rfl 63 _ (0, 0) _ h2 Tryd.underlying63 rfl (hiA32 _) ?_
        | refine wpList_store_row rfl 63 (.tmp 2) (.tmp 17) rfl (w.heap.size + 1) _ rfl rfl 63 _ h1 (hiA32 _) (by rw [ar32_size, ar32_size]) (ar32_one _) ?_)
      (try simp only [Exit.inBlock, Exit.then])
      refine bodyPost_ret (results_cell_row rfl _ _ (w.heap.size + 1) 63 (ar32 (fun i => Crc.itr Crc.P32 (z + z) (2 ^ i))).toArray (0, 0) _ rfl (setRow_heap _ _ _ _ _ _ h1) Tryd.underlying63 rfl (hiA32 _)) rfl ⟨rfl, ?_⟩
      exact chg_setRow hc (by omega)
set_option maxHeartbeats 1000000 in
theorem twice64_any (z : Nat) (w : World) :
    Calls Tryd.prog 37 #[.agg (ar64 (fun i => Crc.itr Crc.P64 z (2 ^ i))).toArray] w fun e w' => e = .returned (.agg (ar64 (fun i => Crc.itr Crc.P64 (z + z) (2 ^ i))).toArray) ∧ Chg (fun _ => False) w w' := by
  have HZ : Hid (ar64 (fun _ => 0) = ar64 (upto64 (z + z) 0)) := (upto64_none (z + z)).symm
  have HI : Hid (∀ k : Nat, k < 64 → ∀ w : World, (Instr.index 68 (.agg (ar64 (fun i => Crc.itr Crc.P64 z (2 ^ i))).toArray) (.int .i64 k)).run Tryd.prog w = .ok (.int .u64 (Crc.itr Crc.P64 z (2 ^ k) : Nat)) w) := fun k hk w => idx64 _ k hk w
  have HT : Hid (∀ (s : Nat) (w : World), s < 18446744073709551616 → Calls Tryd.prog 36 #[.agg (ar64 (fun i => Crc.itr Crc.P64 z (2 ^ i))).toArray, .int .u64 s] w fun e w' => e = .returned (.int .u64 (Crc.itr Crc.P64 z s : Nat)) ∧ Chg (fun _ => False) w w') := fun s w hs => through64_any z s w hs
  have HS : Hid ((Tryd.prog.info? 68).map (·.size) = some (ar64 (fun i => Crc.itr Crc.P64 z (2 ^ i))).toArray.size) := hiA64 _
  generalize (ar64 (fun i => Crc.itr Crc.P64 z (2 ^ i))).toArray = A at *
  go_enter Tryd.func37, Tryd.ntmps37
  have hb0 : ∀ o o' : Obj, (((w.alloc (.cells A 68)).alloc o).alloc o').heap[w.heap.size]? = some (.cells A 68) := fun o o' => by
    rw [Below.heap_alloc _ _ _ (by simp; omega), Below.heap_alloc _ _ _ (by simp), heap_alloc_last]
  go_wp2_with (first
        | refine wpList_load_row rfl 68 (.tmp 1) rfl w.heap.size rfl 68 A (0, 0) _ (hb0 _ _) Tryd.underlying68 rfl HS.out ?_)
  clear hb0
  go_loopw [7] (fun i wr => ∃ k : Nat, k ≤ 64 ∧ i = .int .i64 k ∧ wr.heap[w.heap.size]? = some (.cells A 68 (0, 0)) ∧ wr.heap[w.heap.size + 1]? = some (.cells (ar64 (fun _ => 0)).toArray 68 (0, 0)) ∧ wr.heap[w.heap.size + 1 + 1]? = some (.cells (ar64 (upto64 (z + z) k)).toArray 68 (0, 0)) ∧ Chg (fun _ => False) w wr) (fun i _ => 64 - (intOf i).toNat)
  case atStart =>
    refine ⟨0, by omega, rfl, ?_, ?_, ?_, (((Chg.refl _ w).alloc _).alloc _).alloc _⟩
    · rw [Below.heap_alloc _ _ _ (by simp; omega), Below.heap_alloc _ _ _ (by simp), heap_alloc_last]
    · rw [Below.heap_alloc _ _ _ (by simp), show w.heap.size + 1 = (w.alloc (.cells A 68)).heap.size by simp]
      exact heap_alloc_last _ _
    · rw [← HZ.out, show w.heap.size + 1 + 1 = ((w.alloc (.cells A 68)).alloc (.cells (ar64 (fun _ => 0)).toArray 68)).heap.size by simp]
      exact heap_alloc_last _ _
  case round =>
    obtain ⟨k, hk, rfl, h0, h1, h2, hc⟩ := hrel
    by_cases hlt : k < 64
    · have hx := HI.out k hlt
      have hy : Crc.itr Crc.P64 z (2 ^ k) < 18446744073709551616 := Crc.itr_lt (w := 64) Crc.p64_lt z (pow64_lt hlt)
      have HU := upto64_step (z + z) k
      rw [Crc.itr_add] at HU
      have HV : Hid ((ar64 (upto64 (z + z) k)).set k (.int .u64 (Crc.itr Crc.P64 z (Crc.itr Crc.P64 z (2 ^ k)) : Nat)) = ar64 (upto64 (z + z) (k + 1))) := HU
      clear HU
      generalize Crc.itr Crc.P64 z (2 ^ k) = y at *
      go_wp2_with (first
        | refine wpList_load_row rfl 68 (.tmp 1) rfl w.heap.size rfl 68 A (0, 0) _ h0 Tryd.underlying68 rfl HS.out ?_)
      refine (HT.out y wr hy).mono ?_
      rintro e w1 ⟨rfl, hc1⟩
      have g0 := blk_keep h0 hc1 (fun f => f)
      have g1 := blk_keep h1 hc1 (fun f => f)
      have g2 := blk_keep h2 hc1 (fun f => f)
      have hcw := chg_then hc hc1
      have c1 := ar64_cell g2 k hlt
      have f1 : w1.frozen? ⟨w.heap.size + 1 + 1, k, none⟩ = false := by simp [World.frozen?, g2]
      generalize Crc.itr Crc.P64 z y = t at *
      have H2 : Hid ((w1.setCell ⟨w.heap.size + 1 + 1, k, none⟩ (.int .u64 (t : Nat))).heap[w.heap.size + 1 + 1]? = some (.cells (ar64 (upto64 (z + z) (k + 1))).toArray 68 (0, 0))) := by
        show _ = _
        rw [blk_setk g2, HV.out]
      have H0 : Hid ((w1.setCell ⟨w.heap.size + 1 + 1, k, none⟩ (.int .u64 (t : Nat))).heap[w.heap.size]? = some (.cells A 68 (0, 0))) := by
        show _ = _
        rw [Below.heap_setCell _ _ _ _ (by simp; omega), g0]
      have H1 : Hid ((w1.setCell ⟨w.heap.size + 1 + 1, k, none⟩ (.int .u64 (t : Nat))).heap[w.heap.size + 1]? = some (.cells (ar64 (fun _ => 0)).toArray 68 (0, 0))) := by
        show _ = _
        rw [Below.heap_setCell _ _ _ _ (by simp), g1]
      have HC : Hid (Chg (fun _ => False) w (w1.setCell ⟨w.heap.size + 1 + 1, k, none⟩ (.int .u64 (t : Nat)))) := hcw.setCell (.inr (by show _ ≤ w.heap.size + 1 + 1; omega)) _
      clear g0 g1 g2 h0 h1 h2 hc hc1 hcw hx
      go_wp2
      go_roundw
      case rel => exact ⟨k + 1, by omega, by go_num, H0.out, H1.out, H2.out, HC.out⟩
      case measure => simp [intOf]; omega
    · obtain rfl : k = 64 := by omega
      rw [upto64_all] at h2
      go_wp2_with (first
        | refine wpList_load_row rfl 68 (.tmp 3) rfl (w.heap.size + 1 + 1) rfl 68 _ (0, 0) _ h2 Tryd.underlying68 rfl (hiA64 _) ?_
        | refine wpList_store_row rfl 68 (.tmp 2) (.tmp 17) rfl (w.heap.size + 1) _ rfl rfl 68 _ h1 (hiA64 _) (by rw [ar64_size, ar64_size]) (ar64_one _) ?_)
      (try simp only [Exit.inBlock, Exit.then])
      refine bodyPost_ret (results_cell_row rfl _ _ (w.heap.size + 1) 68 (ar64 (fun i => Crc.itr Crc.P64 (z + z) (2 ^ i))).toArray (0, 0) _ rfl (setRow_heap _ _ _ _ _ _ h1) Tryd.underlying68 rfl (hiA64 _)) rfl ⟨rfl, ?_⟩
      exact chg_setRow hc (by omega)
end Go.Proofs.YtmgjbkgooekihaaDoor
