/- The contracts of the reader's U8, Low, High and Zeros: what each call answers and what it leaves of the reader, of no statement by themselves. -/
import Derived.Test.YtgfibbabfpphpaaReader
import Derived.Test.YtgfibbabfpphpaaNums
namespace Go.Proofs.Ytgfibbabfpphpaa
open Go.RowKit

set_option maxHeartbeats 400000 in
theorem number_no (a : Nat) (n : Int) (w : World) (hn : n < 1 ∨ 8 < n) :
    Calls Try.prog 37 #[.pointer (some ⟨a, 0, none⟩), .int .i64 n] w fun e w' => e = .returned (.tuple #[.slice none 0 0, .int .i64 6]) ∧ w = w' := by
  go_enter Try.func37, Try.ntmps37
  go_wp2_with (go_at_call 35; refine (isWidth_no _ _ hn).mono ?_; rintro e w' ⟨rfl, rfl⟩)
  go_ret2
  exact ⟨rfl, rfl⟩

set_option maxHeartbeats 400000 in
theorem number_big (B a g off : Nat) (xs : List Int) (n : Int) (w : World) (h : Rd B w a g xs off) (h1 : 1 ≤ n) (h2 : n ≤ 8) (hb : (xs.length : Int) - off < n) :
    Calls Try.prog 37 #[.pointer (some ⟨a, 0, none⟩), .int .i64 n] w fun e w' => e = .returned (.tuple #[.slice none 0 0, .int .i64 1]) ∧ Rd B w' a g xs off ∧ Chg (fun k => k = a) w w' := by
  go_enter Try.func37, Try.ntmps37
  go_wp2_with fail
  refine (isWidth_yes _ _ h1 h2).mono ?_
  rintro e w' ⟨rfl, rfl⟩
  go_wp2_with fail
  refine (next_big _ _ _ _ _ _ _ h (by omega) hb).mono ?_
  rintro e w2 ⟨rfl, hr, hc⟩
  clear h
  go_wp2
  go_ret2
  exact ⟨rfl, hr, hc⟩

set_option maxHeartbeats 400000 in
theorem number_ok (B a g off : Nat) (xs : List Int) (n : Nat) (w : World) (h : Rd B w a g xs off) (h1 : 1 ≤ n) (h2 : n ≤ 8) (hb : off + n ≤ xs.length) :
    Calls Try.prog 37 #[.pointer (some ⟨a, 0, none⟩), .int .i64 n] w fun e w' => ∃ ad c, e = .returned (.tuple #[.slice ad n c, .int .i64 0]) ∧ Seg g xs off ad n c ∧ Rd B w' a g xs (off + n) ∧ Chg (fun k => k = a) w w' := by
  go_enter Try.func37, Try.ntmps37
  go_wp2_with fail
  refine (isWidth_yes _ _ (by omega) (by omega)).mono ?_
  rintro e w' ⟨rfl, rfl⟩
  go_wp2_with fail
  refine (next_ok _ _ _ _ _ _ _ h hb).mono ?_
  rintro e w2 ⟨ad, c, rfl, hs, hr, hc⟩
  clear h
  go_wp2
  go_ret2
  exact ⟨_, _, rfl, hs, hr, hc⟩

/-- Bytes that lie at an address, one by one. -/
theorem row8_cells {w : World} {ad : Option Addr} {n c : Nat} {ys : List Int} (h : Row8 w ad n c ys) (hn : 1 ≤ n) : ∃ x, ad = some x ∧ ∀ k, k < n → w.cell? (x.add k) = some (.int .u8 (ys.getD k 0)) := by
  rcases h.2 with ⟨_, e, _⟩ | ⟨x, e, hx⟩
  · omega
  · exact ⟨x, e, fun k hk => hx k _ (by simp [List.getD, show k < ys.length by have := h.1; omega])⟩

set_option maxHeartbeats 800000 in
theorem rhigh_core (B a g off : Nat) (xs ys : List Int) (n : Nat) (w : World) (h : Rd B w a g xs off) (h1 : 1 ≤ n) (h2 : n ≤ 8) (hb : off + n ≤ xs.length) (hyb : Bytes8 ys) (HY : Hid ((xs.drop off).take n = ys)) :
    Calls Try.prog 22 #[.pointer (some ⟨a, 0, none⟩), .int .i64 n] w fun e w' => e = .returned (.tuple #[.int .u64 (highNum ys), .int .i64 0]) ∧ Rd B w' a g xs (off + n) ∧ Chg (fun k => k = a) w w' := by
  go_enter Try.func22, Try.ntmps22
  go_wp2_with fail
  refine (number_ok _ _ _ _ _ _ _ h h1 h2 hb).mono ?_
  rintro e w2 ⟨ad, c, rfl, hs, hr, hc⟩
  have hq : Row8 w2 ad n c ys := by rw [← HY.out]; exact hs _ hr.row
  have hyl := hq.1
  obtain ⟨x, rfl, hcell⟩ := row8_cells hq h1
  clear h hs hq HY
  go_wp2_with fail
  go_loop [8, 19] (fun v i => ∃ k : Nat, k ≤ n ∧ i = .int .i64 k ∧ v = .int .u64 (highNum (ys.take k))) (fun _ i => n - (intOf i).toNat)
  case atStart => exact ⟨0, Nat.zero_le _, rfl, rfl⟩
  case round =>
    obtain ⟨k, hk, rfl, rfl⟩ := hrel
    by_cases hlt : k < n
    · have hky : k < ys.length := by omega
      go_wp2
      go_round
      case rel => exact ⟨k + 1, by omega, by go_num, congrArg (Value.int .u64) (high_step ys hyb k hky (by omega))⟩
      case measure => simp [intOf]; omega
    · obtain rfl : k = n := by omega
      have ht : ys.take k = ys := List.take_of_length_le (by omega)
      rw [ht]
      clear ht
      go_wp2
      go_ret2
      exact ⟨rfl, hr, hc⟩

set_option maxHeartbeats 800000 in
theorem rlow_core (B a g off : Nat) (xs ys : List Int) (n : Nat) (w : World) (h : Rd B w a g xs off) (h1 : 1 ≤ n) (h2 : n ≤ 8) (hb : off + n ≤ xs.length) (hyb : Bytes8 ys) (HY : Hid ((xs.drop off).take n = ys)) :
    Calls Try.prog 45 #[.pointer (some ⟨a, 0, none⟩), .int .i64 n] w fun e w' => e = .returned (.tuple #[.int .u64 (lowNum ys), .int .i64 0]) ∧ Rd B w' a g xs (off + n) ∧ Chg (fun k => k = a) w w' := by
  go_enter Try.func45, Try.ntmps45
  go_wp2_with fail
  refine (number_ok _ _ _ _ _ _ _ h h1 h2 hb).mono ?_
  rintro e w2 ⟨ad, c, rfl, hs, hr, hc⟩
  have hq : Row8 w2 ad n c ys := by rw [← HY.out]; exact hs _ hr.row
  have hyl := hq.1
  obtain ⟨x, rfl, hcell⟩ := row8_cells hq h1
  clear h hs hq HY
  go_wp2_with fail
  go_loop [8, 19] (fun v i => ∃ k : Nat, k ≤ n ∧ i = .int .i64 k ∧ v = .int .u64 (lowNum (ys.take k))) (fun _ i => n - (intOf i).toNat)
  case atStart => exact ⟨0, Nat.zero_le _, rfl, rfl⟩
  case round =>
    obtain ⟨k, hk, rfl, rfl⟩ := hrel
    by_cases hlt : k < n
    · have hky : k < ys.length := by omega
      go_wp2
      go_round
      case rel => exact ⟨k + 1, by omega, by go_num, congrArg (Value.int .u64) (low_step_walk ys hyb k hky (by omega))⟩
      case measure => simp [intOf]; omega
    · obtain rfl : k = n := by omega
      have ht : ys.take k = ys := List.take_of_length_le (by omega)
      rw [ht]
      clear ht
      go_wp2
      go_ret2
      exact ⟨rfl, hr, hc⟩


set_option maxHeartbeats 800000 in
theorem rhigh_no (a : Nat) (n : Int) (w : World) (hn : n < 1 ∨ 8 < n) :
    Calls Try.prog 22 #[.pointer (some ⟨a, 0, none⟩), .int .i64 n] w fun e w' => e = .returned (.tuple #[.int .u64 0, .int .i64 6]) ∧ w = w' := by
  go_enter Try.func22, Try.ntmps22
  go_wp2_with fail
  refine (number_no _ _ _ hn).mono ?_
  rintro e w2 ⟨rfl, rfl⟩
  go_wp2_with fail
  refine wp_loop_rounds 1 ?_
  rw [rounds_succ]
  go_wp2
  go_ret2
  exact ⟨rfl, rfl⟩

set_option maxHeartbeats 800000 in
theorem rhigh_big (B a g off : Nat) (xs : List Int) (n : Int) (w : World) (h : Rd B w a g xs off) (h1 : 1 ≤ n) (h2 : n ≤ 8) (hb : (xs.length : Int) - off < n) :
    Calls Try.prog 22 #[.pointer (some ⟨a, 0, none⟩), .int .i64 n] w fun e w' => e = .returned (.tuple #[.int .u64 0, .int .i64 1]) ∧ Rd B w' a g xs off ∧ Chg (fun k => k = a) w w' := by
  go_enter Try.func22, Try.ntmps22
  go_wp2_with fail
  refine (number_big _ _ _ _ _ _ _ h h1 h2 hb).mono ?_
  rintro e w2 ⟨rfl, hr, hc⟩
  clear h
  go_wp2_with fail
  refine wp_loop_rounds 1 ?_
  rw [rounds_succ]
  go_wp2
  go_ret2
  exact ⟨rfl, hr, hc⟩

set_option maxHeartbeats 800000 in
theorem rlow_no (a : Nat) (n : Int) (w : World) (hn : n < 1 ∨ 8 < n) :
    Calls Try.prog 45 #[.pointer (some ⟨a, 0, none⟩), .int .i64 n] w fun e w' => e = .returned (.tuple #[.int .u64 0, .int .i64 6]) ∧ w = w' := by
  go_enter Try.func45, Try.ntmps45
  go_wp2_with fail
  refine (number_no _ _ _ hn).mono ?_
  rintro e w2 ⟨rfl, rfl⟩
  go_wp2_with fail
  refine wp_loop_rounds 1 ?_
  rw [rounds_succ]
  go_wp2
  go_ret2
  exact ⟨rfl, rfl⟩

set_option maxHeartbeats 800000 in
theorem rlow_big (B a g off : Nat) (xs : List Int) (n : Int) (w : World) (h : Rd B w a g xs off) (h1 : 1 ≤ n) (h2 : n ≤ 8) (hb : (xs.length : Int) - off < n) :
    Calls Try.prog 45 #[.pointer (some ⟨a, 0, none⟩), .int .i64 n] w fun e w' => e = .returned (.tuple #[.int .u64 0, .int .i64 1]) ∧ Rd B w' a g xs off ∧ Chg (fun k => k = a) w w' := by
  go_enter Try.func45, Try.ntmps45
  go_wp2_with fail
  refine (number_big _ _ _ _ _ _ _ h h1 h2 hb).mono ?_
  rintro e w2 ⟨rfl, hr, hc⟩
  clear h
  go_wp2_with fail
  refine wp_loop_rounds 1 ?_
  rw [rounds_succ]
  go_wp2
  go_ret2
  exact ⟨rfl, hr, hc⟩

set_option maxHeartbeats 800000 in
theorem u8_end (B a g off : Nat) (xs : List Int) (w : World) (h : Rd B w a g xs off) (hb : xs.length = off) :
    Calls Try.prog 26 #[.pointer (some ⟨a, 0, none⟩)] w fun e w' => e = .returned (.tuple #[.int .i64 0, .int .i64 1]) ∧ Rd B w' a g xs off ∧ Chg (fun k => k = a) w w' := by
  have hlt : (xs.length : Int) - off < 1 := by omega
  clear hb
  go_enter Try.func26, Try.ntmps26
  go_wp2_with fail
  refine (next_big _ _ _ _ _ _ _ h (by omega) hlt).mono ?_
  rintro e w2 ⟨rfl, hr, hc⟩
  clear h
  go_wp2
  go_ret2
  exact ⟨rfl, hr, hc⟩

theorem next_i (B a g off : Nat) (xs : List Int) (n : Int) (w : World) (h : Rd B w a g xs off) (h0 : 0 ≤ n) (hb : (off : Int) + n ≤ xs.length) :
    Calls Try.prog 32 #[.pointer (some ⟨a, 0, none⟩), .int .i64 n] w fun e w' => ∃ ad c, e = .returned (.tuple #[.slice ad n.toNat c, .int .i64 0]) ∧ Seg g xs off ad n.toNat c ∧ Rd B w' a g xs (off + n.toNat) ∧ Chg (fun k => k = a) w w' := by
  obtain ⟨k, rfl⟩ := Int.eq_ofNat_of_zero_le h0
  rw [Int.toNat_natCast]
  exact next_ok B a g off xs k w h (by omega)

set_option maxHeartbeats 800000 in
theorem u8_ok (B a g off : Nat) (xs : List Int) (x : Int) (w : World) (h : Rd B w a g xs off) (hb : off < xs.length) (hx : xs.getD off 0 = x) (h0 : 0 ≤ x) (h1 : x ≤ 255) :
    Calls Try.prog 26 #[.pointer (some ⟨a, 0, none⟩)] w fun e w' => e = .returned (.tuple #[.int .i64 x, .int .i64 0]) ∧ Rd B w' a g xs (off + 1) ∧ Chg (fun k => k = a) w w' := by
  have HX : Hid (xs.getD off 0 = x) := hx
  clear hx
  go_enter Try.func26, Try.ntmps26
  go_wp2_with fail
  refine (next_i _ _ _ _ _ _ _ h (by omega) (by omega)).mono ?_
  rintro e w2 ⟨ad, c, rfl, hs, hr, hc⟩
  have hq := hs _ hr.row
  obtain ⟨p, rfl, hcell⟩ := row8_cells hq (by decide)
  have hc0 : w2.cell? p = some (.int .u8 x) := by
    have := hcell 0 (by decide)
    rw [show p.add 0 = p by cases p; simp [Addr.add]] at this
    rw [this, ← HX.out]
    simp [List.getD, List.getElem?_drop]
  clear h hs hq hcell HX
  go_wp2
  go_ret2
  exact ⟨rfl, hr, hc⟩

theorem peek_i (B a g off : Nat) (xs : List Int) (n : Int) (w : World) (h : Rd B w a g xs off) (h0 : 0 ≤ n) (hb : (off : Int) + n ≤ xs.length) :
    Calls Try.prog 33 #[.pointer (some ⟨a, 0, none⟩), .int .i64 n] w fun e w' => ∃ ad c, e = .returned (.tuple #[.slice ad n.toNat c, .int .i64 0]) ∧ Seg g xs off ad n.toNat c ∧ ∃ k, w' = w.drewN k := by
  obtain ⟨k, rfl⟩ := Int.eq_ofNat_of_zero_le h0
  rw [Int.toNat_natCast]
  exact peek_ok B a g off xs k w h (by omega)

set_option maxHeartbeats 400000 in
theorem rzeros_neg (a : Nat) (n : Int) (w : World) (hn : n < 0) :
    Calls Try.prog 12 #[.pointer (some ⟨a, 0, none⟩), .int .i64 n] w fun e w' => e = .returned (.int .i64 7) ∧ w = w' := by
  go_enter Try.func12, Try.ntmps12
  go_wp2_with fail
  refine (peek_neg _ _ _ hn).mono ?_
  rintro e w2 ⟨rfl, rfl⟩
  go_wp2
  go_ret
  exact ⟨rfl, rfl⟩

set_option maxHeartbeats 400000 in
theorem rzeros_big (B a g off : Nat) (xs : List Int) (n : Int) (w : World) (h : Rd B w a g xs off) (hn : 0 ≤ n) (hb : (xs.length : Int) - off < n) :
    Calls Try.prog 12 #[.pointer (some ⟨a, 0, none⟩), .int .i64 n] w fun e w' => e = .returned (.int .i64 1) ∧ ∃ k, w' = w.drewN k := by
  go_enter Try.func12, Try.ntmps12
  go_wp2_with fail
  refine (peek_big _ _ _ _ _ _ _ h hn hb).mono ?_
  rintro e w2 ⟨rfl, k, rfl⟩
  clear h
  go_wp2
  go_ret
  exact ⟨rfl, _, rfl⟩

/-- Is every one of them 0? -/
def allZero (ys : List Int) : Bool := ys.all (· == 0)

set_option maxHeartbeats 800000 in
theorem rzeros_ok (B a g off : Nat) (xs ys : List Int) (n : Nat) (w : World) (h : Rd B w a g xs off) (hb : off + n ≤ xs.length) (HY : Hid ((xs.drop off).take n = ys)) (HZ : Hid (∀ k, k < n → ys.getD k 0 = 0)) :
    Calls Try.prog 12 #[.pointer (some ⟨a, 0, none⟩), .int .i64 n] w fun e w' => e = .returned (.int .i64 0) ∧ Rd B w' a g xs (off + n) ∧ Chg (fun k => k = a) w w' := by
  have hc0 : ∀ k, (w.drewN k).cell? ⟨a, 0, none⟩ = some (.int .i64 off) := fun k => cell0 h.blk
  have hf0 : ∀ k, (w.drewN k).frozen? ⟨a, 0, none⟩ = false := fun k => free0 h.blk
  have hle := h.le
  have hlen := h.len
  go_enter Try.func12, Try.ntmps12
  go_wp2_with fail
  refine (peek_ok _ _ _ _ _ _ _ h hb).mono ?_
  rintro e w2 ⟨ad, c, rfl, hs, q, rfl⟩
  have hq : Row8 (w.drewN q) ad n c ys := by rw [← HY.out]; exact hs (w.drewN q) h.row
  have hcell : 1 ≤ n → ∃ x, ad = some x ∧ ∀ k, k < n → (w.drewN q).cell? (x.add k) = some (.int .u8 0) := fun hn => by
    obtain ⟨x, e, hx⟩ := row8_cells hq hn
    exact ⟨x, e, fun k hk => by rw [hx k hk, HZ.out k hk]⟩
  have HR : Hid (Rd B ((w.drewN q).setCell ⟨a, 0, none⟩ (.int .i64 ((off : Int) + (n : Int)))) a g xs (off + n)) := h.set (w' := w.drewN q) rfl hb _ (by omega)
  have HC : Hid (Chg (fun k => k = a) w ((w.drewN q).setCell ⟨a, 0, none⟩ (.int .i64 ((off : Int) + (n : Int))))) := chg_set (chg_drewN _ _) _
  clear h hs hq HY HZ
  go_wp2_with fail
  go_loop [20] (fun i => ∃ k : Nat, k ≤ n ∧ i = .int .i64 k) (fun i => n - (intOf i).toNat)
  case atStart => exact ⟨0, Nat.zero_le _, rfl⟩
  case round =>
    obtain ⟨k, hk, rfl⟩ := hrel
    by_cases hlt : k < n
    · obtain ⟨x, rfl, hx⟩ := hcell (by omega)
      have hck := hx k hlt
      clear hx hcell
      go_wp2
      go_round
      case rel => exact ⟨k + 1, by omega, by go_num⟩
      case measure => simp [intOf]; omega
    · obtain rfl : k = n := by omega
      clear hcell
      go_wp2_with fail
      refine (pass_any a off k _ (hc0 q) (hf0 q) (by omega) (by omega) (by omega)).mono ?_
      rintro e w2 ⟨rfl, rfl⟩
      clear hc0 hf0
      go_wp2
      go_ret
      exact ⟨rfl, HR.out, HC.out⟩

set_option maxHeartbeats 800000 in
theorem rzeros_bad (B a g off : Nat) (xs ys : List Int) (n j : Nat) (z : Int) (w : World) (h : Rd B w a g xs off) (hb : off + n ≤ xs.length) (HY : Hid ((xs.drop off).take n = ys)) (hj : j < n) (HZ : Hid (∀ k, k < j → ys.getD k 0 = 0)) (HJ : Hid (ys.getD j 0 = z)) (hz : (z != 0) = true) :
    Calls Try.prog 12 #[.pointer (some ⟨a, 0, none⟩), .int .i64 n] w fun e w' => e = .returned (.int .i64 2) ∧ ∃ k, w' = w.drewN k := by
  have hlen := h.len
  go_enter Try.func12, Try.ntmps12
  go_wp2_with fail
  refine (peek_ok _ _ _ _ _ _ _ h hb).mono ?_
  rintro e w2 ⟨ad, c, rfl, hs, q, rfl⟩
  have hq : Row8 (w.drewN q) ad n c ys := by rw [← HY.out]; exact hs (w.drewN q) h.row
  obtain ⟨x, rfl, hx⟩ := row8_cells hq (by omega)
  have hx0 : ∀ k, k < j → (w.drewN q).cell? (x.add k) = some (.int .u8 0) := fun k hk => by rw [hx k (by omega), HZ.out k hk]
  have hxj : (w.drewN q).cell? (x.add j) = some (.int .u8 z) := by rw [hx j hj, HJ.out]
  clear h hs hq HY HZ HJ hx
  go_wp2_with fail
  go_loop [20] (fun i => ∃ k : Nat, k ≤ j ∧ i = .int .i64 k) (fun i => n - (intOf i).toNat)
  case atStart => exact ⟨0, Nat.zero_le _, rfl⟩
  case round =>
    obtain ⟨k, hk, rfl⟩ := hrel
    by_cases hlt : k < j
    · have hck := hx0 k hlt
      clear hx0 hxj
      go_wp2
      go_round
      case rel => exact ⟨k + 1, by omega, by go_num⟩
      case measure => simp [intOf]; omega
    · obtain rfl : k = j := by omega
      clear hx0
      go_wp2
      go_ret
      exact ⟨rfl, _, rfl⟩

end Go.Proofs.Ytgfibbabfpphpaa
