/- The contracts of the document's own functions on numbers and of its reader's calls, of no statement by themselves. -/
import Derived.Test.YtgfibbabfpphpaaRef
namespace Go.Proofs.Ytgfibbabfpphpaa
open Go.RowKit

theorem lowNum_drop (ys : List Int) (k : Nat) (h : k < ys.length) : lowNum (ys.drop k) = ys[k] + 256 * lowNum (ys.drop (k + 1)) := by
  rw [List.drop_eq_getElem_cons h]; rfl

/-- One byte more, from the end. -/
theorem num_step (ys : List Int) (h : Bytes8 ys) (k : Nat) (hk : k < ys.length) (h8 : ys.length ≤ 8) (x : Int) (hx : ys[k] = x) :
    IntKind.u64.wrap (IntKind.u64.wrap (256 * lowNum (ys.drop (k + 1))) + IntKind.u64.wrap x) = lowNum (ys.drop k) := by
  subst hx
  have hb := lowNum_bd (ys.drop (k + 1)) (fun x hx => h x (List.mem_of_mem_drop hx))
  have hb2 := lowNum_bd (ys.drop k) (fun x hx => h x (List.mem_of_mem_drop hx))
  have hx := h ys[k] (by simp)
  rw [lowNum_drop ys k hk] at hb2 ⊢
  have hp := pow_le8 (ys.drop k).length (by simp; omega)
  generalize lowNum (ys.drop (k + 1)) = v at *
  generalize ys[k] = x at *
  rw [wrap_u64 x (by omega) (by omega), wrap_u64 (256 * v) (by omega) (by omega), wrap_u64 _ (by omega) (by omega)]
  omega

set_option maxHeartbeats 800000 in
theorem number_any (ad : Option Addr) (m c : Nat) (ys : List Int) (w : World) (h : Row8 w ad m c ys) (h8 : Bytes8 ys) (hm : m ≤ 8) :
    Calls Try.prog 55 #[.slice ad m c] w fun e w' => e = .returned (.int .u64 (lowNum ys)) ∧ w = w' := by
  have hl := h.1
  have hcell : 1 ≤ m → ∃ x, ad = some x ∧ ∀ k, k < m → w.cell? (x.add k) = some (.int .u8 (ys.getD k 0)) := fun hn => row8_cells h hn
  clear h
  go_enter Try.func55, Try.ntmps55
  go_wp2_with fail
  go_loop [3, 4] (fun v i => ∃ k : Nat, k ≤ m ∧ i = .int .i64 ((k : Int) - 1) ∧ v = .int .u64 (lowNum (ys.drop k))) (fun _ i => (intOf i + 1).toNat)
  case atStart => exact ⟨m, Nat.le_refl _, rfl, by rw [List.drop_of_length_le (by omega)]; rfl⟩
  case round =>
    obtain ⟨k, hk, rfl, rfl⟩ := hrel
    by_cases hlt : 0 < k
    · obtain ⟨x, rfl, hx⟩ := hcell (by omega)
      obtain ⟨j, rfl⟩ : ∃ j, k = j + 1 := ⟨k - 1, by omega⟩
      have hck := hx j (by omega)
      have hjy : j < ys.length := by omega
      clear hx hcell
      go_wp2
      go_round
      case rel => exact ⟨j, by omega, rfl, congrArg (Value.int .u64) (num_step ys h8 j hjy (by omega) _ (by simp [hjy]))⟩
      case measure => simp [intOf]
    · obtain rfl : k = 0 := by omega
      rw [List.drop_zero]
      clear hcell
      go_wp2
      go_ret
      exact ⟨rfl, rfl⟩

set_option maxRecDepth 100000 in
set_option maxHeartbeats 1000000 in
theorem turned_any (ad : Option Addr) (m c : Nat) (ys : List Int) (w : World) (h : Row8 w ad m c ys) (hm : m ≤ 1000) :
    Calls Try.prog 54 #[.slice ad m c] w fun e w' => ∃ v, e = .returned v ∧ w'.ownsRow w.heap.size 5 1 v m (cells8 ys.reverse) ∧ Chg (fun _ => False) w w' := by
  obtain ⟨i0, hi, hz0, hz1, hz2⟩ := info_parts info5
  have hl := h.1
  have hcell : 1 ≤ m → ∃ x, ad = some x ∧ ∀ k, k < m → w.cell? (x.add k) = some (.int .u8 (ys.getD k 0)) := fun hn => row8_cells h hn
  go_enter Try.func54, Try.ntmps54
  go_wp2_with fail
  go_loopw [3, 4] (fun v i wr => ∃ k : Nat, k ≤ m ∧ i = .int .i64 ((k : Int) - 1) ∧ wr.ownsRow w.heap.size 5 1 v (m - k) (cells8 (ys.drop k).reverse) ∧ Chg (fun _ => False) w wr) (fun _ i _ => (intOf i + 1).toNat)
  case atStart => exact ⟨m, Nat.le_refl _, rfl, by rw [List.drop_of_length_le (by omega), Nat.sub_self]; exact World.ownsRow_nil _ _ _ _, Chg.refl _ _⟩
  case round =>
    obtain ⟨k, hk, rfl, ho, hc⟩ := hrel
    by_cases hlt : 0 < k
    · obtain ⟨j, rfl⟩ : ∃ j, k = j + 1 := ⟨k - 1, by omega⟩
      have hjy : j < ys.length := by omega
      have hrw := row8_chg h hc
      obtain ⟨x, rfl, hx⟩ := row8_cells hrw (by omega)
      have hck := hx j (by omega)
      have hlt2 := fun b e => (ho.lt b e).1
      have hsz := hc.size
      have hal := fun o => ho.alloc o
      clear hx hcell h hrw
      go_wp2_with (at_builtin; refine wpList_append_moved rfl (.tmp 12) (.tmp 17) 22 rfl w.heap.size 5 i0 (.int .u8 0) 1 1 Try.underlying22 hi hz0 hz1 hz2 rfl (by decide) _ (m - (j + 1)) (cells8 (ys.drop (j + 1)).reverse) rfl (some ⟨wr.heap.size, 0, none⟩) 1 1 rfl [.int .u8 (ys[j]?.getD 0)] (hal _) (row8_one wr _ 5).src (oneCells [_]) (by unfold maxLen; omega) (by omega) (by simp; omega) ?_)
      intro v1 w1 hown hg _
      have hc1 : Chg (fun _ => False) w w1 := (hc.alloc _).grown hg (fun b e => .inr (hlt2 b e))
      have ho1 : w1.ownsRow w.heap.size 5 1 v1 (m - j) (cells8 (ys.drop j).reverse) := by
        rw [List.drop_eq_getElem_cons hjy, List.reverse_cons, cells8_append, show m - j = m - (j + 1) + 1 by omega]
        simpa [hjy, cells8] using hown
      clear hg hown hal ho hc
      go_wp2
      go_roundw
      case rel => exact ⟨j, by omega, rfl, ho1, hc1⟩
      case measure => simp [intOf]
    · obtain rfl : k = 0 := by omega
      rw [List.drop_zero, Nat.sub_zero] at ho
      clear hcell h
      go_wp2
      go_ret
      exact ⟨_, rfl, ho, hc⟩

set_option maxHeartbeats 400000 in
theorem refWidth_yes (n : Int) (w : World) (h1 : 1 ≤ n) (h2 : n ≤ 8) : Calls Try.prog 52 #[.int .i64 n] w fun e w' => e = .returned (.bool true) ∧ w = w' := by
  have h3 : n < 9 := by omega
  go_enter Try.func52, Try.ntmps52
  go_wp2
  go_ret
  exact ⟨rfl, rfl⟩

set_option maxHeartbeats 400000 in
theorem refWidth_no (n : Int) (w : World) (h : n < 1 ∨ 8 < n) : Calls Try.prog 52 #[.int .i64 n] w fun e w' => e = .returned (.bool false) ∧ w = w' := by
  rcases h with h | h
  · have hd : decide (0 < n) = false := by simp; omega
    go_enter Try.func52, Try.ntmps52
    go_wp2
    go_ret
    exact ⟨rfl, rfl⟩
  · have h1 : 0 < n := by omega
    have hd : decide (n < 9) = false := by simp; omega
    go_enter Try.func52, Try.ntmps52
    go_wp2
    go_ret
    exact ⟨rfl, rfl⟩

set_option maxHeartbeats 400000 in
theorem refLow_no (a : Nat) (n : Int) (w : World) (hn : n < 1 ∨ 8 < n) :
    Calls Try.prog 47 #[.pointer (some ⟨a, 0, none⟩), .int .i64 n] w fun e w' => e = .returned (.tuple #[.int .u64 0, .int .i64 6]) ∧ w = w' := by
  go_enter Try.func47, Try.ntmps47
  go_wp2_with fail
  refine (refWidth_no _ _ hn).mono ?_
  rintro e w2 ⟨rfl, rfl⟩
  go_wp2
  go_ret2
  exact ⟨rfl, rfl⟩

set_option maxHeartbeats 400000 in
theorem refHigh_no (a : Nat) (n : Int) (w : World) (hn : n < 1 ∨ 8 < n) :
    Calls Try.prog 48 #[.pointer (some ⟨a, 0, none⟩), .int .i64 n] w fun e w' => e = .returned (.tuple #[.int .u64 0, .int .i64 6]) ∧ w = w' := by
  go_enter Try.func48, Try.ntmps48
  go_wp2_with fail
  refine (refWidth_no _ _ hn).mono ?_
  rintro e w2 ⟨rfl, rfl⟩
  go_wp2
  go_ret2
  exact ⟨rfl, rfl⟩

set_option maxHeartbeats 800000 in
theorem refLow_big (B a g off c : Nat) (xs : List Int) (ad : Option Addr) (n : Int) (w : World) (h : RR B w a g xs off ad c) (h1 : 1 ≤ n) (h2 : n ≤ 8) (hb : (xs.length : Int) - off < n) :
    Calls Try.prog 47 #[.pointer (some ⟨a, 0, none⟩), .int .i64 n] w fun e w' => e = .returned (.tuple #[.int .u64 0, .int .i64 1]) ∧ (∃ ad', RR B w' a g xs off ad' c) ∧ Chg (fun k => k = a) w w' := by
  go_enter Try.func47, Try.ntmps47
  go_wp2_with fail
  refine (refWidth_yes _ _ h1 h2).mono ?_
  rintro e w2 ⟨rfl, rfl⟩
  go_wp2_with fail
  refine (refTake_big _ _ _ _ _ _ _ _ _ h (by omega) hb).mono ?_
  rintro e w2 ⟨rfl, hr, hc⟩
  clear h
  go_wp2_with fail
  refine (number_any none 0 0 [] w2 ⟨rfl, .inl ⟨rfl, rfl, rfl⟩⟩ Bytes8.nil (by omega)).mono ?_
  rintro e w3 ⟨rfl, rfl⟩
  go_wp2
  go_ret2
  exact ⟨rfl, hr, hc⟩

set_option maxHeartbeats 800000 in
theorem refHigh_big (B a g off c : Nat) (xs : List Int) (ad : Option Addr) (n : Int) (w : World) (h : RR B w a g xs off ad c) (h1 : 1 ≤ n) (h2 : n ≤ 8) (hb : (xs.length : Int) - off < n) :
    Calls Try.prog 48 #[.pointer (some ⟨a, 0, none⟩), .int .i64 n] w fun e w' => e = .returned (.tuple #[.int .u64 0, .int .i64 1]) ∧ (∃ ad', RR B w' a g xs off ad' c) ∧ Chg (fun k => k = a) w w' := by
  go_enter Try.func48, Try.ntmps48
  go_wp2_with fail
  refine (refWidth_yes _ _ h1 h2).mono ?_
  rintro e w2 ⟨rfl, rfl⟩
  go_wp2_with fail
  refine (refTake_big _ _ _ _ _ _ _ _ _ h (by omega) hb).mono ?_
  rintro e w2 ⟨rfl, ⟨ad', hr⟩, hc⟩
  clear h
  go_wp2_with fail
  refine (turned_any none 0 0 [] w2 ⟨rfl, .inl ⟨rfl, rfl, rfl⟩⟩ (by omega)).mono ?_
  rintro e w3 ⟨v3, rfl, ho3, hc3⟩
  obtain ⟨va, vc, rfl, hrow⟩ := own_row8 ho3
  have hr3 := hr.new hc3
  have hC3 := chg_then hc hc3
  clear hr hc hc3 ho3
  go_wp2_with fail
  refine (number_any _ _ _ _ _ hrow Bytes8.nil (by omega)).mono ?_
  rintro e w4 ⟨rfl, rfl⟩
  clear hrow
  go_wp2
  go_ret2
  exact ⟨rfl, ⟨ad', hr3⟩, hC3⟩

set_option maxHeartbeats 800000 in
theorem refLow_ok (B a g off c : Nat) (xs ys : List Int) (ad : Option Addr) (n : Nat) (w : World) (h : RR B w a g xs off ad c) (h1 : 1 ≤ n) (h2 : n ≤ 8) (hb : off + n ≤ xs.length) (h8 : Bytes8 ys) (HY : Hid ((xs.drop off).take n = ys)) :
    Calls Try.prog 47 #[.pointer (some ⟨a, 0, none⟩), .int .i64 n] w fun e w' => e = .returned (.tuple #[.int .u64 (lowNum ys), .int .i64 0]) ∧ (∃ ad' c', RR B w' a g xs (off + n) ad' c') ∧ Chg (fun k => k = a) w w' := by
  have hcut := h.cut n hb
  rw [HY.out] at hcut
  go_enter Try.func47, Try.ntmps47
  go_wp2_with fail
  refine (refWidth_yes _ _ (by omega) (by omega)).mono ?_
  rintro e w2 ⟨rfl, rfl⟩
  go_wp2_with fail
  refine (refTake_ok _ _ _ _ _ _ _ _ _ h hb).mono ?_
  rintro e w2 ⟨rfl, ⟨ad', hr⟩, hc⟩
  have hrow := hcut w2 hr.row
  clear h hcut
  go_wp2_with fail
  refine (number_any _ _ _ _ _ hrow h8 (by omega)).mono ?_
  rintro e w3 ⟨rfl, rfl⟩
  clear hrow
  go_wp2
  go_ret2
  exact ⟨rfl, ⟨ad', _, hr⟩, hc⟩

set_option maxHeartbeats 800000 in
theorem refHigh_ok (B a g off c : Nat) (xs ys : List Int) (ad : Option Addr) (n : Nat) (w : World) (h : RR B w a g xs off ad c) (h1 : 1 ≤ n) (h2 : n ≤ 8) (hb : off + n ≤ xs.length) (h8 : Bytes8 ys) (HY : Hid ((xs.drop off).take n = ys)) :
    Calls Try.prog 48 #[.pointer (some ⟨a, 0, none⟩), .int .i64 n] w fun e w' => e = .returned (.tuple #[.int .u64 (highNum ys), .int .i64 0]) ∧ (∃ ad' c', RR B w' a g xs (off + n) ad' c') ∧ Chg (fun k => k = a) w w' := by
  have hcut := h.cut n hb
  rw [HY.out] at hcut
  rw [highNum_rev]
  have h8r : Bytes8 ys.reverse := fun x hx => h8 x (by simpa using hx)
  go_enter Try.func48, Try.ntmps48
  go_wp2_with fail
  refine (refWidth_yes _ _ (by omega) (by omega)).mono ?_
  rintro e w2 ⟨rfl, rfl⟩
  go_wp2_with fail
  refine (refTake_ok _ _ _ _ _ _ _ _ _ h hb).mono ?_
  rintro e w2 ⟨rfl, ⟨ad', hr⟩, hc⟩
  have hrow := hcut w2 hr.row
  clear h hcut
  go_wp2_with fail
  refine (turned_any _ _ _ _ _ hrow (by omega)).mono ?_
  rintro e w3 ⟨v3, rfl, ho3, hc3⟩
  obtain ⟨va, vc, rfl, hrow3⟩ := own_row8 ho3
  have hr3 := hr.new hc3
  have hC3 := chg_then hc hc3
  clear hr hc hc3 ho3 hrow
  go_wp2_with fail
  refine (number_any _ _ _ _ _ hrow3 h8r (by omega)).mono ?_
  rintro e w4 ⟨rfl, rfl⟩
  clear hrow3
  go_wp2
  go_ret2
  exact ⟨rfl, ⟨ad', _, hr3⟩, hC3⟩

theorem refTake_i (B a g off c : Nat) (xs : List Int) (ad : Option Addr) (n : Int) (w : World) (h : RR B w a g xs off ad c) (h0 : 0 ≤ n) (hn : (off : Int) + n ≤ xs.length) :
    Calls Try.prog 51 #[.pointer (some ⟨a, 0, none⟩), .int .i64 n] w fun e w' => e = .returned (.tuple #[.slice ad n.toNat c, .int .i64 0]) ∧ (∃ ad', RR B w' a g xs (off + n.toNat) ad' (c - n.toNat)) ∧ Chg (fun k => k = a) w w' := by
  obtain ⟨k, rfl⟩ := Int.eq_ofNat_of_zero_le h0
  rw [Int.toNat_natCast]
  exact refTake_ok B a g off c xs ad k w h (by omega)

set_option maxHeartbeats 800000 in
theorem refU8_end (B a g off c : Nat) (xs : List Int) (ad : Option Addr) (w : World) (h : RR B w a g xs off ad c) (hb : xs.length = off) :
    Calls Try.prog 49 #[.pointer (some ⟨a, 0, none⟩)] w fun e w' => e = .returned (.tuple #[.int .i64 0, .int .i64 1]) ∧ (∃ ad' c', RR B w' a g xs off ad' c') ∧ Chg (fun k => k = a) w w' := by
  have hb1 : (xs.length : Int) - off < 1 := by omega
  clear hb
  go_enter Try.func49, Try.ntmps49
  go_wp2_with fail
  refine (refTake_big _ _ _ _ _ _ _ _ _ h (by omega) hb1).mono ?_
  rintro e w2 ⟨rfl, ⟨ad', hr⟩, hc⟩
  clear h
  go_wp2_with fail
  refine (number_any none 0 0 [] w2 ⟨rfl, .inl ⟨rfl, rfl, rfl⟩⟩ Bytes8.nil (by omega)).mono ?_
  rintro e w3 ⟨rfl, rfl⟩
  rw [show lowNum [] = 0 from rfl]
  go_wp2
  go_ret2
  exact ⟨rfl, ⟨ad', _, hr⟩, hc⟩

set_option maxHeartbeats 800000 in
theorem refU8_ok (B a g off c : Nat) (xs : List Int) (ad : Option Addr) (x : Int) (w : World) (h : RR B w a g xs off ad c) (hb : off < xs.length) (HX : Hid ((xs.drop off).take 1 = [x])) (h0 : 0 ≤ x) (h1 : x ≤ 255) :
    Calls Try.prog 49 #[.pointer (some ⟨a, 0, none⟩)] w fun e w' => e = .returned (.tuple #[.int .i64 x, .int .i64 0]) ∧ (∃ ad' c', RR B w' a g xs (off + 1) ad' c') ∧ Chg (fun k => k = a) w w' := by
  have hcut := h.cut 1 (by omega)
  rw [HX.out] at hcut
  have h8 : Bytes8 [x] := fun y hy => by simp at hy; subst hy; exact ⟨h0, h1⟩
  have hnum : lowNum [x] = x := by simp [lowNum]
  go_enter Try.func49, Try.ntmps49
  go_wp2_with fail
  refine (refTake_i _ _ _ _ _ _ _ _ _ h (by omega) (by omega)).mono ?_
  rintro e w2 ⟨rfl, ⟨ad', hr⟩, hc⟩
  have hrow := hcut w2 hr.row
  clear h hcut
  go_wp2_with fail
  refine (number_any _ _ _ _ _ hrow h8 (by decide)).mono ?_
  rintro e w3 ⟨rfl, rfl⟩
  rw [hnum]
  clear hrow
  go_wp2
  go_ret2
  exact ⟨rfl, ⟨ad', _, hr⟩, hc⟩

end Go.Proofs.Ytgfibbabfpphpaa
