/- The document's own Get: its contract; of no statement by themselves. -/
import Derived.Test.YtkjjcdkobapedaaDoorRefPut
namespace Go.Proofs.YtkjjcdkobapedaaDoor
open Go.RowKit

set_option maxHeartbeats 2000000 in
theorem refGet_some (x : Addr) (c : Nat) (xs : List Int) (m : Nat) (w : World) (HX : Hid (∀ j u, (xs.map (Value.int .u8))[j]? = some u → w.cell? (x.add j) = some u)) (HM : Hid (xs.length = m)) (H8 : Hid (Bytes8 xs)) (hl : m ≤ 140737488355328) :
    Calls Tryd.prog 18 #[.slice (some x) m c] w fun e w' => ∃ v n e', e = .returned (.tuple #[.int .u64 v, .int .i64 n, .int .i64 e']) ∧ GetIs xs v n e' ∧ w = w' := by
  go_enter Tryd.func18, Tryd.ntmps18
  go_wp2
  go_loop [5, 6, 7] (fun v p i => ∃ k : Nat, k ≤ m ∧ k ≤ 8 ∧ i = .int .i64 k ∧ v = .int .u64 (wt (xs.take k)) ∧ p = .int .u64 (128 ^ k) ∧ Hid (∀ (j : Nat) y, j < k → xs[j]? = some y → 128 ≤ y)) (fun _ _ i => m - (intOf i).toNat)
  case atStart => exact ⟨0, by omega, by omega, rfl, rfl, rfl, fun j y hj => by omega⟩
  case round =>
    obtain ⟨k, hk, hk8, rfl, rfl, rfl, HB⟩ := hrel
    by_cases hlt : k < m
    · have hkl : k < xs.length := by rw [HM.out]; exact hlt
      have hc := cell_at HX.out k hkl
      have HK : Hid (xs[k]? = some xs[k]) := List.getElem?_eq_getElem _
      obtain ⟨y0, y1⟩ := H8.out xs[k] (by simp)
      have HT : Hid (wt (xs.take (k + 1)) = wt (xs.take k) + 128 ^ k * (xs[k] % 128)) := wt_take xs k hkl
      obtain ⟨a0, a1⟩ := wt_bd (xs.take k)
      rw [List.length_take, Nat.min_eq_left (by omega)] at a1
      obtain ⟨b0, b1⟩ := wt_bd (xs.take (k + 1))
      rw [List.length_take, Nat.min_eq_left (by omega), HT.out, Int.pow_succ] at b1
      rw [HT.out] at b0
      have p0 : (0 : Int) < 128 ^ k := Int.pow_pos (by omega)
      have p1 : (128 : Int) ^ k ≤ 72057594037927936 := Int.le_trans (pow_mono hk8) (by decide)
      have HP : Hid ((128 : Int) ^ k * 128 = 128 ^ (k + 1)) := (Int.pow_succ 128 k).symm
      have HZ : Hid (∀ z : Int, 0 ≤ z → 0 ≤ (128 : Int) ^ k * z) := fun z hz => Int.mul_nonneg (Int.le_of_lt p0) hz
      generalize xs[k] = y at *
      by_cases hy : y < 128
      · have hym : y % 128 = y := by omega
        rw [hym] at b0 b1
        have HT2 : Hid (wt (xs.take (k + 1)) = wt (xs.take k) + 128 ^ k * y) := by
          show _ = _
          rw [HT.out, hym]
        clear hym
        by_cases hz : 0 < k ∧ y = 0
        · obtain ⟨hz1, hz2⟩ := hz
          subst hz2
          go_wp2
          go_ret3
          exact ⟨0, 0, 2, rfl, ⟨.inr (.inr ⟨k, 0, hk8, HK.out, hy, HB.out, .inl ⟨hz1, rfl, rfl, rfl⟩⟩), fun f => by omega, fun _ => rfl⟩, rfl⟩
        · have HN : Hid (¬ (0 < k ∧ y = 0)) := hz
          obtain ⟨z, hzm⟩ : ∃ z, IntKind.u64.wrap (128 ^ k * y) = z := ⟨_, rfl⟩
          have hze : z = 128 ^ k * y := by rw [← hzm]; exact wrap_u64 _ (HZ.out y y0) (by have := HZ.out y y0; omega)
          have HG : Hid (wt (xs.take (k + 1)) = wt (xs.take k) + z) := by
            show _ = _
            rw [HT2.out, hze]
          have hz0 : 0 ≤ z := by rw [hze]; exact HZ.out y y0
          have hz1 : wt (xs.take k) + z < 128 ^ k * 128 := by rw [hze]; exact b1
          clear hze b0 b1 hz
          generalize wt (xs.take k) = a at *
          generalize (128 : Int) ^ k = p at *
          by_cases hy0 : y = 0
          · have hk0 : ¬ 0 < k := fun h => HN.out ⟨h, hy0⟩
            subst hy0
            go_wp2
            go_ret3
            exact ⟨_, (k : Int) + 1, 0, rfl, ⟨.inr (.inr ⟨k, 0, hk8, HK.out, hy, HB.out, .inr ⟨fun f => hk0 f.1, rfl, rfl⟩⟩), fun _ => by rw [show ((k : Int) + 1).toNat = k + 1 by omega, HT2.out]; simp, fun f => (f rfl).elim⟩, rfl⟩
          · have hyb : (y == 0) = false := beq_eq_false_iff_ne.2 hy0
            go_wp2
            go_ret3
            exact ⟨_, (k : Int) + 1, 0, rfl, ⟨.inr (.inr ⟨k, y, hk8, HK.out, hy, HB.out, .inr ⟨HN.out, rfl, rfl⟩⟩), fun _ => by rw [show ((k : Int) + 1).toNat = k + 1 by omega, HG.out], fun f => (f rfl).elim⟩, rfl⟩
      · have hym : y % 128 = y - 128 := by omega
        rw [hym] at b0 b1
        have HT2 : Hid (wt (xs.take (k + 1)) = wt (xs.take k) + 128 ^ k * (y - 128)) := by
          show _ = _
          rw [HT.out, hym]
        clear hym
        have HC : Hid (∀ (j : Nat) z, j < k + 1 → xs[j]? = some z → 128 ≤ z) := fun j z hj hz => by
          rcases Nat.lt_succ_iff_lt_or_eq.1 hj with e | e
          · exact HB.out j z e hz
          · subst e
            rw [HK.out] at hz
            simp only [Option.some.injEq] at hz
            omega
        by_cases h8 : k = 8
        · have h9 : ((k : Int) == 8) = true := by simp; omega
          have HE : Hid (k = 8) := h8
          clear h8
          go_wp2
          go_ret3
          exact ⟨0, 0, 2, rfl, ⟨.inr (.inl ⟨rfl, rfl, by have := HE.out; omega, fun j y hj hy => HC.out j y (by have := HE.out; omega) hy⟩), fun f => by omega, fun _ => rfl⟩, rfl⟩
        · obtain ⟨z, hzm⟩ : ∃ z, IntKind.u64.wrap (128 ^ k * (y - 128)) = z := ⟨_, rfl⟩
          have hze : z = 128 ^ k * (y - 128) := by rw [← hzm]; exact wrap_u64 _ (HZ.out (y - 128) (by omega)) (by have := HZ.out (y - 128) (by omega); omega)
          have HG : Hid (wt (xs.take (k + 1)) = wt (xs.take k) + z) := by
            show _ = _
            rw [HT2.out, hze]
          have hz0 : 0 ≤ z := by rw [hze]; exact HZ.out _ (by omega)
          have hz1 : wt (xs.take k) + z < 128 ^ k * 128 := by rw [hze]; exact b1
          have h8n : ((k : Int) == 8) = false := beq_eq_false_iff_ne.2 (by omega)
          clear hze b0 b1
          generalize wt (xs.take k) = a at *
          generalize (128 : Int) ^ k = p at *
          go_wp2
          go_round
          case rel => exact ⟨k + 1, by omega, by omega, by go_num, by rw [HG.out], by rw [← HP.out], HC⟩
          case measure => simp [intOf]; omega
    · obtain rfl : k = m := by omega
      go_wp2
      go_ret3
      exact ⟨0, 0, 1, rfl, ⟨.inl ⟨rfl, rfl, by rw [HM.out]; exact hk8, fun j y hy => HB.out j y (by
        have := HM.out
        by_cases e : j < xs.length
        · omega
        · rw [List.getElem?_eq_none (by omega)] at hy; cases hy) hy⟩, fun f => by omega, fun _ => rfl⟩, rfl⟩

theorem refGet_any (ad : Option Addr) (m c : Nat) (xs : List Int) (w : World) (h : Row8 w ad m c xs) (h8 : Bytes8 xs) (hl : m ≤ 140737488355328) :
    Calls Tryd.prog 18 #[.slice ad m c] w fun e w' => ∃ v n e', e = .returned (.tuple #[.int .u64 v, .int .i64 n, .int .i64 e']) ∧ GetIs xs v n e' ∧ w = w' := by
  have hm := h.1
  rcases h.2 with ⟨rfl, rfl, rfl⟩ | ⟨x, rfl, hx⟩
  · have e : xs = [] := List.eq_nil_of_length_eq_zero hm
    subst e
    clear h h8 hl hm
    go_enter Tryd.func18, Tryd.ntmps18
    go_wp2
    go_loop [7] (fun i => i = .int .i64 0) (fun _ => 0)
    case atStart => rfl
    case round =>
      obtain rfl := hrel
      go_wp2
      go_ret3
      exact ⟨0, 0, 1, rfl, ⟨.inl ⟨rfl, rfl, by simp, fun j y hy => by simp at hy⟩, fun f => by omega, fun _ => rfl⟩, rfl⟩
  · exact refGet_some x c xs m w hx hm h8 hl

end Go.Proofs.YtkjjcdkobapedaaDoor
