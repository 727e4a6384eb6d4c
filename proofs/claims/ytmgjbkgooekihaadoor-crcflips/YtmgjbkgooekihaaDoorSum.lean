/- The contracts of Sum32, Sum64: the sum of pieces is that of all their bytes; of no statement by themselves. -/
import Derived.Test.YtmgjbkgooekihaaDoorMore
namespace Go.Proofs.YtmgjbkgooekihaaDoor
open Go.RowKit

/-- A piece: a slice value and the bytes that it tells. -/
def Piece (w : World) (v : Value) (ns : List Nat) : Prop := ∃ a m c, v = .slice a m c ∧ Row8 w a m c (up ns) ∧ Byt ns ∧ m ≤ 140737488355328

/-- Pieces in a row. -/
def Pieces (w : World) (x : Addr) (nss : List (List Nat)) : Prop := ∀ k (hk : k < nss.length), ∃ v, w.cell? (x.add k) = some v ∧ Piece w v nss[k]

theorem flat_take (nss : List (List Nat)) (k : Nat) (hk : k < nss.length) : (nss.take (k + 1)).flatten = (nss.take k).flatten ++ nss[k] := by
  rw [List.take_succ_eq_append_getElem hk, List.flatten_append, List.flatten_singleton]

theorem Pieces.byt {w : World} {x : Addr} {nss : List (List Nat)} (h : Pieces w x nss) (k : Nat) : Byt (nss.take k).flatten := fun y hy => by
  obtain ⟨l, hl, hy⟩ := List.mem_flatten.1 hy
  obtain ⟨j, hj, rfl⟩ := List.mem_iff_getElem.1 (List.mem_of_mem_take hl)
  obtain ⟨v, _, a, m, c, _, _, hb, _⟩ := h j hj
  exact hb y hy

theorem sum32_any (x : Addr) (n c : Nat) (nss : List (List Nat)) (w : World) (HT : Hid (Tab w)) (HX : Hid (Pieces w x nss)) (HM : Hid (nss.length = n)) (hl : n ≤ 140737488355328) :
    Calls Tryd.prog 9 #[.slice (some x) n c] w fun e w' => e = .returned (.int .u32 (Crc.more Crc.P32 32 0 nss.flatten : Nat)) ∧ w = w' := by
  go_enter Tryd.func9, Tryd.ntmps9
  go_wp2
  go_loop [3, 8] (fun z i => ∃ k : Nat, k ≤ n ∧ i = .int .i64 k ∧ z = .int .u32 (Crc.more Crc.P32 32 0 (nss.take k).flatten : Nat)) (fun _ i => n - (intOf i).toNat)
  case atStart => exact ⟨0, by omega, rfl, by rw [List.take_zero, List.flatten_nil, Crc.more_nil]; rfl⟩
  case round =>
    obtain ⟨k, hk, rfl, rfl⟩ := hrel
    have hq : Crc.more Crc.P32 32 0 (nss.take k).flatten < 4294967296 := more32_lt (HX.out.byt k) (by decide)
    by_cases hlt : k < n
    · have hkl : k < nss.length := by rw [HM.out]; exact hlt
      obtain ⟨v, hc, a, m, d, rfl, hr, hb, hm⟩ := HX.out k hkl
      have HP : Hid (Crc.more Crc.P32 32 (Crc.more Crc.P32 32 0 (nss.take k).flatten) nss[k] = Crc.more Crc.P32 32 0 (nss.take (k + 1)).flatten) := by
        show _ = _
        rw [flat_take nss k hkl, Crc.more_append]
      have HR : Hid (Row8 w a m d (up nss[k])) := hr
      have HB : Hid (Byt nss[k]) := hb
      clear hr hb
      generalize nss[k] = y at *
      generalize Crc.more Crc.P32 32 0 (nss.take k).flatten = q at *
      go_wp2_with fail
      refine (more32_any q a m d y w HT.out hq HR.out HB.out hm).mono ?_
      rintro e w1 ⟨rfl, rfl⟩
      go_wp2
      go_round
      case rel => exact ⟨k + 1, by omega, by go_num, by rw [HP.out]⟩
      case measure => simp [intOf]; omega
    · obtain rfl : k = n := by omega
      have HF : Hid (nss.take k = nss) := List.take_of_length_le (by rw [HM.out]; exact Nat.le_refl _)
      rw [HF.out] at hq ⊢
      go_wp2
      go_ret
      exact ⟨rfl, rfl⟩
theorem sum64_any (x : Addr) (n c : Nat) (nss : List (List Nat)) (w : World) (HT : Hid (Tab w)) (HX : Hid (Pieces w x nss)) (HM : Hid (nss.length = n)) (hl : n ≤ 140737488355328) :
    Calls Tryd.prog 10 #[.slice (some x) n c] w fun e w' => e = .returned (.int .u64 (Crc.more Crc.P64 64 0 nss.flatten : Nat)) ∧ w = w' := by
  go_enter Tryd.func10, Tryd.ntmps10
  go_wp2
  go_loop [3, 8] (fun z i => ∃ k : Nat, k ≤ n ∧ i = .int .i64 k ∧ z = .int .u64 (Crc.more Crc.P64 64 0 (nss.take k).flatten : Nat)) (fun _ i => n - (intOf i).toNat)
  case atStart => exact ⟨0, by omega, rfl, by rw [List.take_zero, List.flatten_nil, Crc.more_nil]; rfl⟩
  case round =>
    obtain ⟨k, hk, rfl, rfl⟩ := hrel
    have hq : Crc.more Crc.P64 64 0 (nss.take k).flatten < 18446744073709551616 := more64_lt (HX.out.byt k) (by decide)
    by_cases hlt : k < n
    · have hkl : k < nss.length := by rw [HM.out]; exact hlt
      obtain ⟨v, hc, a, m, d, rfl, hr, hb, hm⟩ := HX.out k hkl
      have HP : Hid (Crc.more Crc.P64 64 (Crc.more Crc.P64 64 0 (nss.take k).flatten) nss[k] = Crc.more Crc.P64 64 0 (nss.take (k + 1)).flatten) := by
        show _ = _
        rw [flat_take nss k hkl, Crc.more_append]
      have HR : Hid (Row8 w a m d (up nss[k])) := hr
      have HB : Hid (Byt nss[k]) := hb
      clear hr hb
      generalize nss[k] = y at *
      generalize Crc.more Crc.P64 64 0 (nss.take k).flatten = q at *
      go_wp2_with fail
      refine (more64_any q a m d y w HT.out hq HR.out HB.out hm).mono ?_
      rintro e w1 ⟨rfl, rfl⟩
      go_wp2
      go_round
      case rel => exact ⟨k + 1, by omega, by go_num, by rw [HP.out]⟩
      case measure => simp [intOf]; omega
    · obtain rfl : k = n := by omega
      have HF : Hid (nss.take k = nss) := List.take_of_length_le (by rw [HM.out]; exact Nat.le_refl _)
      rw [HF.out] at hq ⊢
      go_wp2
      go_ret
      exact ⟨rfl, rfl⟩

/-- One piece alone, as a call with one argument lays it. -/
theorem pieces_one {w : World} {v : Value} {ns : List Nat} (t : TypeId) (h : Piece w v ns) : Pieces (w.alloc (.cells #[v] t)) ⟨w.heap.size, 0, none⟩ [ns] := by
  intro k hk
  obtain rfl : k = 0 := by simpa using hk
  obtain ⟨a, m, c, rfl, hr, hb, hm⟩ := h
  refine ⟨.slice a m c, by simp [Addr.add], a, m, c, rfl, ?_, hb, hm⟩
  exact row8_keep hr ((Chg.refl (fun _ => False) w).alloc _) (fun _ _ f => f)

end Go.Proofs.YtmgjbkgooekihaaDoor
