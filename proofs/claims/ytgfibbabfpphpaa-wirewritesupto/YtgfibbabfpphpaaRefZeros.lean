/- The contracts of the document's own Zeros of a reader, of no statement by themselves. -/
import Derived.Test.YtgfibbabfpphpaaRefNum
namespace Go.Proofs.Ytgfibbabfpphpaa
open Go.RowKit

set_option maxHeartbeats 800000 in
theorem refZeros_neg (B a g off c : Nat) (xs : List Int) (ad : Option Addr) (n : Int) (w : World) (h : RR B w a g xs off ad c) (hn : n < 0) :
    Calls Try.prog 50 #[.pointer (some ⟨a, 0, none⟩), .int .i64 n] w fun e w' => e = .returned (.int .i64 7) ∧ (∃ ad' c', RR B w' a g xs off ad' c') ∧ Chg (fun k => k = a) w w' := by
  have h0 := refReads_any _ _ _ _ _ _ _ 0 _ h (by have := h.le; omega)
  go_enter Try.func50, Try.ntmps50
  go_wp2_with fail
  refine (reftake_neg _ _ _ hn).mono ?_
  rintro e w2 ⟨rfl, rfl⟩
  go_wp2_with fail
  refine wp_loop_rounds 1 ?_
  rw [rounds_succ]
  go_wp2_with fail
  refine h0.mono ?_
  rintro e w2 ⟨rfl, ⟨ad', hr⟩, hc⟩
  clear h h0
  go_wp2
  go_ret
  exact ⟨rfl, ⟨ad', _, hr⟩, hc⟩

set_option maxHeartbeats 800000 in
theorem refZeros_big (B a g off c : Nat) (xs : List Int) (ad : Option Addr) (n : Int) (w : World) (h : RR B w a g xs off ad c) (hn : 0 ≤ n) (hb : (xs.length : Int) - off < n) :
    Calls Try.prog 50 #[.pointer (some ⟨a, 0, none⟩), .int .i64 n] w fun e w' => e = .returned (.int .i64 1) ∧ (∃ ad' c', RR B w' a g xs off ad' c') ∧ Chg (fun k => k = a) w w' := by
  have h0 := refReads_any _ _ _ _ _ _ _ 0 _ h (by have := h.le; omega)
  go_enter Try.func50, Try.ntmps50
  go_wp2_with fail
  refine (reftake_big _ _ _ _ _ _ _ _ _ h hn hb).mono ?_
  rintro e w2 ⟨rfl, rfl⟩
  go_wp2_with fail
  refine wp_loop_rounds 1 ?_
  rw [rounds_succ]
  go_wp2_with fail
  refine h0.mono ?_
  rintro e w2 ⟨rfl, ⟨ad', hr⟩, hc⟩
  clear h h0
  go_wp2
  go_ret
  exact ⟨rfl, ⟨ad', _, hr⟩, hc⟩

set_option maxHeartbeats 800000 in
theorem refZeros_ok (B a g off c : Nat) (xs ys : List Int) (ad : Option Addr) (n : Nat) (w : World) (h : RR B w a g xs off ad c) (hb : off + n ≤ xs.length) (HY : Hid ((xs.drop off).take n = ys)) (HZ : Hid (∀ k, k < n → ys.getD k 0 = 0)) :
    Calls Try.prog 50 #[.pointer (some ⟨a, 0, none⟩), .int .i64 n] w fun e w' => e = .returned (.int .i64 0) ∧ (∃ ad' c', RR B w' a g xs (off + n) ad' c') ∧ Chg (fun k => k = a) w w' := by
  have hcut := h.cut n hb w h.row
  rw [HY.out] at hcut
  have hlen := h.len
  have hcell : 1 ≤ n → ∃ x, ad = some x ∧ ∀ k, k < n → w.cell? (x.add k) = some (.int .u8 0) := fun hn => by
    obtain ⟨x, e, hx⟩ := row8_cells hcut hn
    exact ⟨x, e, fun k hk => by rw [hx k hk, HZ.out k hk]⟩
  go_enter Try.func50, Try.ntmps50
  go_wp2_with fail
  refine (reftake_ok _ _ _ _ _ _ _ _ _ h hb).mono ?_
  rintro e w2 ⟨rfl, rfl⟩
  clear hcut HY HZ
  go_wp2_with fail
  go_loop [7] (fun i => ∃ k : Nat, k ≤ n ∧ i = .int .i64 k) (fun i => n - (intOf i).toNat)
  case atStart => exact ⟨0, Nat.zero_le _, rfl⟩
  case round =>
    obtain ⟨k, hk, rfl⟩ := hrel
    by_cases hlt : k < n
    · obtain ⟨x, rfl, hx⟩ := hcell (by omega)
      have hck := hx k hlt
      clear hx hcell h
      go_wp2
      go_round
      case rel => exact ⟨k + 1, by omega, by go_num⟩
      case measure => simp [intOf]; omega
    · obtain rfl : k = n := by omega
      clear hcell
      go_wp2_with fail
      refine (refReads_any _ _ _ _ _ _ _ _ _ h hb).mono ?_
      rintro e w2 ⟨rfl, ⟨ad', hr⟩, hc⟩
      clear h
      go_wp2
      go_ret
      exact ⟨rfl, ⟨ad', _, hr⟩, hc⟩

set_option maxHeartbeats 800000 in
theorem refZeros_bad (B a g off c : Nat) (xs ys : List Int) (ad : Option Addr) (n j : Nat) (z : Int) (w : World) (h : RR B w a g xs off ad c) (hb : off + n ≤ xs.length) (HY : Hid ((xs.drop off).take n = ys)) (hj : j < n) (HZ : Hid (∀ k, k < j → ys.getD k 0 = 0)) (HJ : Hid (ys.getD j 0 = z)) (hz : (z != 0) = true) :
    Calls Try.prog 50 #[.pointer (some ⟨a, 0, none⟩), .int .i64 n] w fun e w' => e = .returned (.int .i64 2) ∧ w = w' := by
  have hcut := h.cut n hb w h.row
  rw [HY.out] at hcut
  have hlen := h.len
  obtain ⟨x, rfl, hx⟩ := row8_cells hcut (by omega)
  have hx0 : ∀ k, k < j → w.cell? (x.add k) = some (.int .u8 0) := fun k hk => by rw [hx k (by omega), HZ.out k hk]
  have hxj : w.cell? (x.add j) = some (.int .u8 z) := by rw [hx j hj, HJ.out]
  go_enter Try.func50, Try.ntmps50
  go_wp2_with fail
  refine (reftake_ok _ _ _ _ _ _ _ _ _ h hb).mono ?_
  rintro e w2 ⟨rfl, rfl⟩
  clear hcut HY HZ HJ hx h
  go_wp2_with fail
  go_loop [7] (fun i => ∃ k : Nat, k ≤ j ∧ i = .int .i64 k) (fun i => n - (intOf i).toNat)
  case atStart => exact ⟨0, Nat.zero_le _, rfl⟩
  case round =>
    obtain ⟨k, hk, rfl⟩ := hrel
    by_cases hlt : k < j
    · have hck := hx0 k hlt
      clear hx0 hxj
      go_wp2
      go_round
      case rel => exact ⟨k + 1, by omega, by go_num⟩
      case measure => simp [intOf]; omega
    · obtain rfl : k = j := by omega
      clear hx0
      go_wp2
      go_ret
      exact ⟨rfl, rfl⟩

end Go.Proofs.Ytgfibbabfpphpaa
