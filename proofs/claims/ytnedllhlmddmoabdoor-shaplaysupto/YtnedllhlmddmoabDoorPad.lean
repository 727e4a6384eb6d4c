/- The padding: the contract of Pad; of no statement by itself. -/
import Derived.Test.YtnedllhlmddmoabDoorTold
import Derived.Deep.OwnRows
namespace Go.Proofs.YtnedllhlmddmoabDoor
open Go.RowKit
set_option linter.unusedVariables false

/-- The padding, its last k bytes of eight laid. -/
def padk (n k : Nat) : List Nat := (List.range (Sha.padlen n)).map fun i => if i = 0 then 128 else if Sha.padlen n - k ≤ i then 8 * n / 2 ^ (8 * (Sha.padlen n - 1 - i)) % 256 else 0

theorem padk_len (n k : Nat) : (padk n k).length = Sha.padlen n := by simp [padk]
theorem padk_all (n : Nat) : padk n 8 = Sha.pad n := rfl
theorem padk_none (n : Nat) : padk n 0 = (List.replicate (Sha.padlen n) 0).set 0 128 := by
  apply List.ext_getElem?
  intro j
  rw [List.getElem?_set]
  have := Sha.padlen_ge n
  by_cases hj : j < Sha.padlen n
  · by_cases h0 : 0 = j
    · subst h0
      simp [padk, hj]
    · simp [padk, hj, h0, Ne.symm h0, show ¬ Sha.padlen n ≤ j by omega]
  · have h0 : ¬ 0 = j := by omega
    simp [padk, hj, h0]

theorem padk_step (n k : Nat) (hk : k < 8) : (padk n k).set (Sha.padlen n - 1 - k) (8 * n / 2 ^ (8 * k) % 256) = padk n (k + 1) := by
  apply List.ext_getElem?
  intro j
  rw [List.getElem?_set]
  have hg := Sha.padlen_ge n
  simp only [padk_len]
  by_cases e : Sha.padlen n - 1 - k = j
  · subst e
    rw [if_pos rfl, if_pos (by omega)]
    simp only [padk, List.getElem?_map, List.getElem?_range (show Sha.padlen n - 1 - k < Sha.padlen n by omega), Option.map_some]
    rw [if_neg (by omega), if_pos (by omega), show Sha.padlen n - 1 - (Sha.padlen n - 1 - k) = k by omega]
  · rw [if_neg e]
    by_cases hj : j < Sha.padlen n
    · simp only [padk, List.getElem?_map, List.getElem?_range hj, Option.map_some]
      by_cases h0 : j = 0
      · simp [h0]
      · by_cases h1 : Sha.padlen n - k ≤ j
        · rw [if_neg h0, if_pos h1, if_neg h0, if_pos (by omega)]
        · rw [if_neg h0, if_neg h1, if_neg h0, if_neg (by omega)]
    · simp [padk, hj]

theorem pad_neg (n : Int) (w : World) (hn : n < 0) : Calls Tryd.prog 8 #[.int .i64 n] w fun e w' => e = .returned (.slice none 0 0) ∧ w = w' := by
  go_enter Tryd.func8, Tryd.ntmps8
  go_wp2
  go_ret
  exact ⟨rfl, rfl⟩

theorem info5 : (Tryd.prog.info? 5).map (fun i => (i.zero, i.size, i.bytes)) = some (some (.int .u8 0), 1, 1) := by kernel_rfl

theorem make8 (n : Nat) (hn : n ≤ 140737488355328) (w : World) : (Instr.makeSlice 24 (.int .i64 n) (.int .i64 n)).run Tryd.prog w = .ok (.slice (some ⟨w.heap.size, 0, none⟩) n n) (w.alloc (.cells (byts (List.replicate n 0)).toArray 5)) := by
  have h := run_make_row' (P := Tryd.prog) 24 5 (.int .u8 0) 1 Tryd.underlying24 info5 rfl .i64 .i64 n (by omega) (by omega) w
  rw [h]
  have e : madeCells #[Value.int .u8 0] n = (byts (List.replicate n 0)).toArray := by
    apply Array.toList_inj.1
    rw [toList_madeCells_one]
    simp [byts]
  rw [e]

theorem byte_of (n k : Nat) (hn : n < 9223372036854775808) (hk : k < 8) : 8 * n % 18446744073709551616 / 2 ^ (8 * k) % 256 = 8 * n / 2 ^ (8 * k) % 256 := by
  rcases k with _ | _ | _ | _ | _ | _ | _ | _ | k
  all_goals first | omega | (simp only [Nat.reduceMul, Nat.reduceAdd, Nat.reducePow]; omega)

set_option maxHeartbeats 4000000 in
set_option maxRecDepth 100000 in
theorem pad_any (n : Nat) (w : World) (hn : n < 9223372036854775808) :
    Calls Tryd.prog 8 #[.int .i64 n] w fun e w' => ∃ g, e = .returned (.slice (some ⟨g, 0, none⟩) (Sha.padlen n) (Sha.padlen n)) ∧ w.heap.size ≤ g ∧ w'.heap[g]? = some (.cells (byts (Sha.pad n)).toArray 5 (0, 0)) ∧ Chg (fun _ => False) w w' := by
  have hge := Sha.padlen_ge n
  have hle := Sha.padlen_le n
  have hmk := make8 (Sha.padlen n) (by omega) w
  have h0 : (w.alloc (.cells (byts (List.replicate (Sha.padlen n) 0)).toArray 5)).heap[w.heap.size]? = some (.cells (byts (List.replicate (Sha.padlen n) 0)).toArray 5 (0, 0)) := heap_alloc_last w _
  have c0 := byts_cell h0 0 (by simp; omega)
  have f0 : (w.alloc (.cells (byts (List.replicate (Sha.padlen n) 0)).toArray 5)).frozen? ⟨w.heap.size, 0, none⟩ = false := by simp only [World.frozen?, h0]; rfl
  have h1 : (w.alloc (.cells ((byts (List.replicate (Sha.padlen n) 0)).set 0 (.int .u8 128)).toArray 5)).heap[w.heap.size]? = some (.cells (byts (padk n 0)).toArray 5 (0, 0)) := by
    have := byts_set (List.replicate (Sha.padlen n) 0) 0 128
    rw [heap_alloc_last, padk_none, ← this]
    rfl
  have hC : Chg (fun _ => False) w (w.alloc (.cells ((byts (List.replicate (Sha.padlen n) 0)).set 0 (.int .u8 128)).toArray 5)) := chg_one w _
  have HP : Hid (Sha.padlen n = if 64 - n % 64 < 9 then 128 - n % 64 else 64 - n % 64) := rfl
  have hw8 : IntKind.u64.wrap (8 * (n : Int)) = ((8 * n % 18446744073709551616 : Nat) : Int) := by
    have e2 : IntKind.u64.wrap (8 * (n : Int)) = (8 * (n : Int)) % 18446744073709551616 := by simp [IntKind.wrap, IntKind.signed, IntKind.bits]
    rw [e2]
    omega
  by_cases h : n % 64 < 56
  · have e1 : (64 : Int) - (n : Int) % 64 = ((Sha.padlen n : Nat) : Int) := by
      have := HP.out
      rw [if_neg (by omega)] at this
      omega
    have g1 : (9 : Int) ≤ 64 - (n : Int) % 64 := by omega
    go_enter Tryd.func8, Tryd.ntmps8
    go_wp2_with fail
    clear hmk h0 c0 f0 hw8
    go_loopw [23] (fun i wr => ∃ k : Nat, k ≤ 8 ∧ i = .int .i64 k ∧ wr.heap[w.heap.size]? = some (.cells (byts (padk n k)).toArray 5 (0, 0)) ∧ Chg (fun _ => False) w wr) (fun i _ => 8 - (intOf i).toNat)
    case atStart => exact ⟨0, by omega, rfl, h1, hC⟩
    case round =>
      clear h1 hC
      obtain ⟨k, hk, rfl, h1, hC⟩ := hrel
      by_cases hlt : k < 8
      · have c1 := byts_cell h1 (Sha.padlen n - 1 - k) (by rw [padk_len]; omega)
        have f1 : wr.frozen? ⟨w.heap.size, Sha.padlen n - 1 - k, none⟩ = false := by simp only [World.frozen?, h1]; rfl
        have hix : ((Sha.padlen n : Nat) : Int) - 1 - (k : Int) = ((Sha.padlen n - 1 - k : Nat) : Int) := by omega
        have hlq : Sha.padlen n - 1 - k < Sha.padlen n := by omega
        have HV : Hid (8 * (n : Int) % 18446744073709551616 / 2 ^ (8 * k) % 256 = ((8 * n / 2 ^ (8 * k) % 256 : Nat) : Int)) := by
          show _ = _
          rw [← byte_of n k hn hlt]
          simp
        have H1 : Hid ((wr.setCell ⟨w.heap.size, Sha.padlen n - 1 - k, none⟩ (.int .u8 (8 * n / 2 ^ (8 * k) % 256 : Nat))).heap[w.heap.size]? = some (.cells (byts (padk n (k + 1))).toArray 5 (0, 0))) := by
          show _ = _
          rw [blk_setk h1, byts_set, padk_step n k hlt]
        have HC : Hid (Chg (fun _ => False) w (wr.setCell ⟨w.heap.size, Sha.padlen n - 1 - k, none⟩ (.int .u8 (8 * n / 2 ^ (8 * k) % 256 : Nat)))) := hC.setCell (.inr (Nat.le_refl _)) _
        generalize (padk n k).getD (Sha.padlen n - 1 - k) 0 = z at *
        generalize 8 * n / 2 ^ (8 * k) % 256 = y at *
        generalize Sha.padlen n - 1 - k = q at *
        clear h1 hC HP e1 g1
        go_wp2
        go_roundw
        case rel => exact ⟨k + 1, by omega, by go_num, by rw [HV.out]; exact H1.out, by rw [HV.out]; exact HC.out⟩
        case measure => simp [intOf]; omega
      · rw [show k = 8 by omega, padk_all] at h1
        clear HP e1 g1
        go_wp2
        go_ret
        exact ⟨_, rfl, Nat.le_refl _, h1, hC⟩
  · have e1 : (64 : Int) - (n : Int) % 64 + 64 = ((Sha.padlen n : Nat) : Int) := by
      have := HP.out
      rw [if_pos (by omega)] at this
      omega
    have g1 : 64 - (n : Int) % 64 < 9 := by omega
    go_enter Tryd.func8, Tryd.ntmps8
    go_wp2_with fail
    clear hmk h0 c0 f0 hw8
    go_loopw [23] (fun i wr => ∃ k : Nat, k ≤ 8 ∧ i = .int .i64 k ∧ wr.heap[w.heap.size]? = some (.cells (byts (padk n k)).toArray 5 (0, 0)) ∧ Chg (fun _ => False) w wr) (fun i _ => 8 - (intOf i).toNat)
    case atStart => exact ⟨0, by omega, rfl, h1, hC⟩
    case round =>
      clear h1 hC
      obtain ⟨k, hk, rfl, h1, hC⟩ := hrel
      by_cases hlt : k < 8
      · have c1 := byts_cell h1 (Sha.padlen n - 1 - k) (by rw [padk_len]; omega)
        have f1 : wr.frozen? ⟨w.heap.size, Sha.padlen n - 1 - k, none⟩ = false := by simp only [World.frozen?, h1]; rfl
        have hix : ((Sha.padlen n : Nat) : Int) - 1 - (k : Int) = ((Sha.padlen n - 1 - k : Nat) : Int) := by omega
        have hlq : Sha.padlen n - 1 - k < Sha.padlen n := by omega
        have HV : Hid (8 * (n : Int) % 18446744073709551616 / 2 ^ (8 * k) % 256 = ((8 * n / 2 ^ (8 * k) % 256 : Nat) : Int)) := by
          show _ = _
          rw [← byte_of n k hn hlt]
          simp
        have H1 : Hid ((wr.setCell ⟨w.heap.size, Sha.padlen n - 1 - k, none⟩ (.int .u8 (8 * n / 2 ^ (8 * k) % 256 : Nat))).heap[w.heap.size]? = some (.cells (byts (padk n (k + 1))).toArray 5 (0, 0))) := by
          show _ = _
          rw [blk_setk h1, byts_set, padk_step n k hlt]
        have HC : Hid (Chg (fun _ => False) w (wr.setCell ⟨w.heap.size, Sha.padlen n - 1 - k, none⟩ (.int .u8 (8 * n / 2 ^ (8 * k) % 256 : Nat)))) := hC.setCell (.inr (Nat.le_refl _)) _
        generalize (padk n k).getD (Sha.padlen n - 1 - k) 0 = z at *
        generalize 8 * n / 2 ^ (8 * k) % 256 = y at *
        generalize Sha.padlen n - 1 - k = q at *
        clear h1 hC HP e1 g1
        go_wp2
        go_roundw
        case rel => exact ⟨k + 1, by omega, by go_num, by rw [HV.out]; exact H1.out, by rw [HV.out]; exact HC.out⟩
        case measure => simp [intOf]; omega
      · rw [show k = 8 by omega, padk_all] at h1
        clear HP e1 g1
        go_wp2
        go_ret
        exact ⟨_, rfl, Nat.le_refl _, h1, hC⟩
end Go.Proofs.YtnedllhlmddmoabDoor
