/- The contracts of zeros32, zeros64: what n bytes 0 make of a number; of no statement by themselves. -/
import Derived.Test.YtmgjbkgooekihaaDoorTwice
namespace Go.Proofs.YtmgjbkgooekihaaDoor
open Go.RowKit

theorem odd_step (P z n s : Nat) (h : n % 2 = 1) : Crc.itr P ((z + z) * (n / 2)) (Crc.itr P z s) = Crc.itr P (z * n) s := by
  rw [← Crc.itr_add]
  congr 1
  have e : n = 2 * (n / 2) + 1 := by omega
  conv => rhs; rw [e]
  rw [Nat.mul_add, Nat.mul_one, ← Nat.mul_assoc, Nat.mul_two]

theorem even_step (P z n s : Nat) (h : ¬ n % 2 = 1) : Crc.itr P ((z + z) * (n / 2)) s = Crc.itr P (z * n) s := by
  congr 1
  have e : n = 2 * (n / 2) := by omega
  conv => rhs; rw [e]
  rw [← Nat.mul_assoc, Nat.mul_two]

set_option maxHeartbeats 1000000 in
theorem zeros32_any (s n : Nat) (w : World) (hT : Tab w) (hs : s < 4294967296) (hn : n ≤ 140737488355328) :
    Calls Tryd.prog 27 #[.int .u32 s, .int .i64 n] w fun e w' => e = .returned (.int .u32 (Crc.itr Crc.P32 (8 * n) s : Nat)) ∧ Chg (fun _ => False) w w' := by
  go_enter Tryd.func27, Tryd.ntmps27
  go_wp2_with fail
  refine (zero32_any w hT).mono ?_
  rintro e w1 ⟨rfl, hc1⟩
  have hb : ∀ o : Obj, (w1.alloc o).heap[w1.heap.size]? = some o := fun o => heap_alloc_last w1 o
  have hz : (ar32 (fun _ => 0)).toArray.size = 32 := ar32_size _
  have hcc := hc1.size
  clear hT
  go_wp2_with (first
    | refine wpList_store_row rfl 63 (.tmp 5) (.tmp 6) rfl w1.heap.size _ rfl rfl 63 (ar32 (fun _ => 0)).toArray (hb _) (hiA32 _) (by rw [ar32_size, ar32_size]) (ar32_one _) ?_)
  have hB := setRow_heap (w1.alloc (.cells (ar32 (fun _ => 0)).toArray 63)) w1.heap.size _ (ar32 (fun i => Crc.itr Crc.P32 8 (2 ^ i))).toArray 63 (0, 0) (hb _)
  have hC : Chg (fun _ => False) w ((w1.alloc (.cells (ar32 (fun _ => 0)).toArray 63)).setRow w1.heap.size (ar32 (fun i => Crc.itr Crc.P32 8 (2 ^ i))).toArray) := chg_setRow (hc1.alloc _) (by omega)
  clear hb hz
  simp only [Act.put]
  go_loopw [0, 1] (fun a b wr => ∃ s' n' z : Nat, a = .int .u32 s' ∧ b = .int .i64 n' ∧ n' ≤ 140737488355328 ∧ s' < 4294967296 ∧ Hid (Crc.itr Crc.P32 (z * n') s' = Crc.itr Crc.P32 (8 * n) s) ∧ wr.heap[w1.heap.size]? = some (.cells (ar32 (fun i => Crc.itr Crc.P32 z (2 ^ i))).toArray 63 (0, 0)) ∧ Chg (fun _ => False) w wr) (fun _ b _ => (intOf b).toNat)
  case atStart => exact ⟨s, n, 8, rfl, rfl, hn, hs, rfl, hB, hC⟩
  case round =>
    clear hB hC
    obtain ⟨s', n', z, rfl, rfl, hn', hs', HE, hB, hC⟩ := hrel
    by_cases hp : 0 < n'
    · by_cases ho : n' % 2 = 1
      · have HE2 : Hid (Crc.itr Crc.P32 ((z + z) * (n' / 2)) (Crc.itr Crc.P32 z s') = Crc.itr Crc.P32 (8 * n) s) := (odd_step _ _ _ _ ho).trans HE.out
        have HL : Hid (Crc.itr Crc.P32 z s' < 4294967296) := Crc.itr_lt (w := 32) Crc.p32_lt z hs'
        clear HE
        go_wp2_with (first
          | refine wpList_load_row rfl 63 (.tmp 5) rfl w1.heap.size rfl 63 _ (0, 0) _ hB Tryd.underlying63 rfl (hiA32 _) ?_)
        refine (through32_any z s' wr hs').mono ?_
        rintro e w2 ⟨rfl, hc2⟩
        have hB2 := blk_keep hB hc2 (fun f => f)
        have hC2 := chg_then hC hc2
        clear hB hC hc2
        generalize Crc.itr Crc.P32 z s' = t at *
        go_wp2_with (first
          | refine wpList_load_row rfl 63 (.tmp 5) rfl w1.heap.size rfl 63 _ (0, 0) _ hB2 Tryd.underlying63 rfl (hiA32 _) ?_)
        refine (twice32_any z w2).mono ?_
        rintro e w3 ⟨rfl, hc3⟩
        have hB3 := blk_keep hB2 hc3 (fun f => f)
        have hC3 := chg_then hC2 hc3
        clear hB2 hC2 hc3
        have hB4 := setRow_heap w3 w1.heap.size _ (ar32 (fun i => Crc.itr Crc.P32 (z + z) (2 ^ i))).toArray 63 (0, 0) hB3
        have hC4 := chg_setRow (cs := (ar32 (fun i => Crc.itr Crc.P32 (z + z) (2 ^ i))).toArray) hC3 hcc
        go_wp2_with (first
          | refine wpList_store_row rfl 63 (.tmp 5) (.tmp 16) rfl w1.heap.size _ rfl rfl 63 _ hB3 (hiA32 _) (by rw [ar32_size, ar32_size]) (ar32_one _) ?_)
        go_roundw
        case rel => exact ⟨t, n' / 2, z + z, rfl, by go_num, by omega, HL.out, HE2, hB4, hC4⟩
        case measure => simp [intOf]; omega
      · have HE2 : Hid (Crc.itr Crc.P32 ((z + z) * (n' / 2)) s' = Crc.itr Crc.P32 (8 * n) s) := (even_step _ _ _ _ ho).trans HE.out
        clear HE
        go_wp2_with (first
          | refine wpList_load_row rfl 63 (.tmp 5) rfl w1.heap.size rfl 63 _ (0, 0) _ hB Tryd.underlying63 rfl (hiA32 _) ?_)
        refine (twice32_any z wr).mono ?_
        rintro e w3 ⟨rfl, hc3⟩
        have hB3 := blk_keep hB hc3 (fun f => f)
        have hC3 := chg_then hC hc3
        clear hB hC hc3
        have hB4 := setRow_heap w3 w1.heap.size _ (ar32 (fun i => Crc.itr Crc.P32 (z + z) (2 ^ i))).toArray 63 (0, 0) hB3
        have hC4 := chg_setRow (cs := (ar32 (fun i => Crc.itr Crc.P32 (z + z) (2 ^ i))).toArray) hC3 hcc
        go_wp2_with (first
          | refine wpList_store_row rfl 63 (.tmp 5) (.tmp 16) rfl w1.heap.size _ rfl rfl 63 _ hB3 (hiA32 _) (by rw [ar32_size, ar32_size]) (ar32_one _) ?_)
        go_roundw
        case rel => exact ⟨s', n' / 2, z + z, rfl, by go_num, by omega, hs', HE2, hB4, hC4⟩
        case measure => simp [intOf]; omega
    · obtain rfl : n' = 0 := by omega
      have HF : Hid (Crc.itr Crc.P32 (8 * n) s = s') := by
        show _ = _
        rw [← HE.out, Nat.mul_zero]
        rfl
      clear hB
      go_wp2
      go_ret
      exact ⟨by rw [HF.out]; rfl, hC⟩
set_option maxHeartbeats 1000000 in
theorem zeros64_any (s n : Nat) (w : World) (hT : Tab w) (hs : s < 18446744073709551616) (hn : n ≤ 140737488355328) :
    Calls Tryd.prog 29 #[.int .u64 s, .int .i64 n] w fun e w' => e = .returned (.int .u64 (Crc.itr Crc.P64 (8 * n) s : Nat)) ∧ Chg (fun _ => False) w w' := by
  go_enter Tryd.func29, Tryd.ntmps29
  go_wp2_with fail
  refine (zero64_any w hT).mono ?_
  rintro e w1 ⟨rfl, hc1⟩
  have hb : ∀ o : Obj, (w1.alloc o).heap[w1.heap.size]? = some o := fun o => heap_alloc_last w1 o
  have hz : (ar64 (fun _ => 0)).toArray.size = 64 := ar64_size _
  have hcc := hc1.size
  clear hT
  go_wp2_with (first
    | refine wpList_store_row rfl 68 (.tmp 5) (.tmp 6) rfl w1.heap.size _ rfl rfl 68 (ar64 (fun _ => 0)).toArray (hb _) (hiA64 _) (by rw [ar64_size, ar64_size]) (ar64_one _) ?_)
  have hB := setRow_heap (w1.alloc (.cells (ar64 (fun _ => 0)).toArray 68)) w1.heap.size _ (ar64 (fun i => Crc.itr Crc.P64 8 (2 ^ i))).toArray 68 (0, 0) (hb _)
  have hC : Chg (fun _ => False) w ((w1.alloc (.cells (ar64 (fun _ => 0)).toArray 68)).setRow w1.heap.size (ar64 (fun i => Crc.itr Crc.P64 8 (2 ^ i))).toArray) := chg_setRow (hc1.alloc _) (by omega)
  clear hb hz
  simp only [Act.put]
  go_loopw [0, 1] (fun a b wr => ∃ s' n' z : Nat, a = .int .u64 s' ∧ b = .int .i64 n' ∧ n' ≤ 140737488355328 ∧ s' < 18446744073709551616 ∧ Hid (Crc.itr Crc.P64 (z * n') s' = Crc.itr Crc.P64 (8 * n) s) ∧ wr.heap[w1.heap.size]? = some (.cells (ar64 (fun i => Crc.itr Crc.P64 z (2 ^ i))).toArray 68 (0, 0)) ∧ Chg (fun _ => False) w wr) (fun _ b _ => (intOf b).toNat)
  case atStart => exact ⟨s, n, 8, rfl, rfl, hn, hs, rfl, hB, hC⟩
  case round =>
    clear hB hC
    obtain ⟨s', n', z, rfl, rfl, hn', hs', HE, hB, hC⟩ := hrel
    by_cases hp : 0 < n'
    · by_cases ho : n' % 2 = 1
      · have HE2 : Hid (Crc.itr Crc.P64 ((z + z) * (n' / 2)) (Crc.itr Crc.P64 z s') = Crc.itr Crc.P64 (8 * n) s) := (odd_step _ _ _ _ ho).trans HE.out
        have HL : Hid (Crc.itr Crc.P64 z s' < 18446744073709551616) := Crc.itr_lt (w := 64) Crc.p64_lt z hs'
        clear HE
        go_wp2_with (first
          | refine wpList_load_row rfl 68 (.tmp 5) rfl w1.heap.size rfl 68 _ (0, 0) _ hB Tryd.underlying68 rfl (hiA64 _) ?_)
        refine (through64_any z s' wr hs').mono ?_
        rintro e w2 ⟨rfl, hc2⟩
        have hB2 := blk_keep hB hc2 (fun f => f)
        have hC2 := chg_then hC hc2
        clear hB hC hc2
        generalize Crc.itr Crc.P64 z s' = t at *
        go_wp2_with (first
          | refine wpList_load_row rfl 68 (.tmp 5) rfl w1.heap.size rfl 68 _ (0, 0) _ hB2 Tryd.underlying68 rfl (hiA64 _) ?_)
        refine (twice64_any z w2).mono ?_
        rintro e w3 ⟨rfl, hc3⟩
        have hB3 := blk_keep hB2 hc3 (fun f => f)
        have hC3 := chg_then hC2 hc3
        clear hB2 hC2 hc3
        have hB4 := setRow_heap w3 w1.heap.size _ (ar64 (fun i => Crc.itr Crc.P64 (z + z) (2 ^ i))).toArray 68 (0, 0) hB3
        have hC4 := chg_setRow (cs := (ar64 (fun i => Crc.itr Crc.P64 (z + z) (2 ^ i))).toArray) hC3 hcc
        go_wp2_with (first
          | refine wpList_store_row rfl 68 (.tmp 5) (.tmp 16) rfl w1.heap.size _ rfl rfl 68 _ hB3 (hiA64 _) (by rw [ar64_size, ar64_size]) (ar64_one _) ?_)
        go_roundw
        case rel => exact ⟨t, n' / 2, z + z, rfl, by go_num, by omega, HL.out, HE2, hB4, hC4⟩
        case measure => simp [intOf]; omega
      · have HE2 : Hid (Crc.itr Crc.P64 ((z + z) * (n' / 2)) s' = Crc.itr Crc.P64 (8 * n) s) := (even_step _ _ _ _ ho).trans HE.out
        clear HE
        go_wp2_with (first
          | refine wpList_load_row rfl 68 (.tmp 5) rfl w1.heap.size rfl 68 _ (0, 0) _ hB Tryd.underlying68 rfl (hiA64 _) ?_)
        refine (twice64_any z wr).mono ?_
        rintro e w3 ⟨rfl, hc3⟩
        have hB3 := blk_keep hB hc3 (fun f => f)
        have hC3 := chg_then hC hc3
        clear hB hC hc3
        have hB4 := setRow_heap w3 w1.heap.size _ (ar64 (fun i => Crc.itr Crc.P64 (z + z) (2 ^ i))).toArray 68 (0, 0) hB3
        have hC4 := chg_setRow (cs := (ar64 (fun i => Crc.itr Crc.P64 (z + z) (2 ^ i))).toArray) hC3 hcc
        go_wp2_with (first
          | refine wpList_store_row rfl 68 (.tmp 5) (.tmp 16) rfl w1.heap.size _ rfl rfl 68 _ hB3 (hiA64 _) (by rw [ar64_size, ar64_size]) (ar64_one _) ?_)
        go_roundw
        case rel => exact ⟨s', n' / 2, z + z, rfl, by go_num, by omega, hs', HE2, hB4, hC4⟩
        case measure => simp [intOf]; omega
    · obtain rfl : n' = 0 := by omega
      have HF : Hid (Crc.itr Crc.P64 (8 * n) s = s') := by
        show _ = _
        rw [← HE.out, Nat.mul_zero]
        rfl
      clear hB
      go_wp2
      go_ret
      exact ⟨by rw [HF.out]; rfl, hC⟩
end Go.Proofs.YtmgjbkgooekihaaDoor
