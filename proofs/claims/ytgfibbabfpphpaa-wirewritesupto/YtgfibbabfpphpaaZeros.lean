/- The contracts of the writer's Zeros and Len and of Pad: what each call answers and what it leaves, of no statement by themselves. -/
import Derived.Test.YtgfibbabfpphpaaLow
namespace Go.Proofs.Ytgfibbabfpphpaa
open Go.RowKit

set_option maxHeartbeats 400000 in
theorem len_any (B a : Nat) (v : Value) (bs : List Int) (w : World) (h : Wr B w a v bs) :
    Calls Try.prog 17 #[.pointer (some ⟨a, 0, none⟩)] w fun e w' => e = .returned (.int .i64 bs.length) ∧ w = w' := by
  have hc0 := cell0 h.blk
  clear h
  go_enter Try.func17, Try.ntmps17
  go_wp2
  go_ret
  exact ⟨rfl, rfl⟩

set_option maxHeartbeats 400000 in
theorem zeros_no (a : Nat) (n : Int) (w : World) (h : n < 0 ∨ 65536 < n) :
    Calls Try.prog 16 #[.pointer (some ⟨a, 0, none⟩), .int .i64 n] w fun e w' => e = .returned (.int .i64 7) ∧ w = w' := by
  rcases h with h | h
  · go_enter Try.func16, Try.ntmps16
    go_wp2
    go_ret
    exact ⟨rfl, rfl⟩
  · have h0 : 0 ≤ n := by omega
    go_enter Try.func16, Try.ntmps16
    go_wp2
    go_ret
    exact ⟨rfl, rfl⟩

theorem row8_made {w w1 : World} {B n : Nat} {p : Value} (hown : w1.ownsRow B 5 1 p n (madeCells #[Value.int .u8 0] n).toList) (hp : p = .slice (some ⟨w.heap.size, 0, none⟩) n n) :
    Row8 w1 (some ⟨w.heap.size, 0, none⟩) n n (List.replicate n 0) := by
  have e : (madeCells #[Value.int .u8 0] n).toList = (List.replicate n (0 : Int)).map (Value.int .u8) := by
    rw [toList_madeCells_one]; simp
  rw [e] at hown
  obtain ⟨ad, c, h1, h2⟩ := own_row8 hown
  rw [hp] at h1
  simp only [Value.slice.injEq] at h1
  obtain ⟨rfl, _, rfl⟩ := h1
  exact h2

set_option maxHeartbeats 800000 in
theorem zeros_yes (B a : Nat) (v : Value) (bs : List Int) (n : Nat) (w : World) (h : Wr B w a v bs) (hB : B ≤ w.heap.size) (hn : n ≤ 65536) (hlen : bs.length ≤ 140737488250000) :
    Calls Try.prog 16 #[.pointer (some ⟨a, 0, none⟩), .int .i64 n] w fun e w' => e = .returned (.int .i64 0) ∧ ∃ v', Wr B w' a v' (bs ++ List.replicate n 0) ∧ Chg (Foot a v) w w' ∧ Moved w v v' := by
  obtain ⟨i0, hi, hz0, hz1, hz2⟩ := info_parts info5
  have h0 : decide ((65536 : Int) < (n : Int)) = false := by simp; omega
  go_enter Try.func16, Try.ntmps16
  go_wp2_with (at_make; refine wpList_make_full _ rfl (.tmp 12) (.tmp 12) 22 rfl B 5 i0 (.int .u8 0) 1 Try.underlying22 hi hz0 hz1 .i64 .i64 _ _ n rfl rfl rfl rfl (by rw [hz2]; omega) (by unfold maxLen; omega) hB ?_)
  intro w1 hown hg
  have hs := row8_made hown rfl
  have hc : Chg (fun _ => False) w w1 := (Chg.refl _ w).grown hg (fun k e => by cases e)
  have hw1 := h.keep hc (fun f => f) (fun _ _ f => f)
  have hB1 : B ≤ w1.heap.size := Nat.le_trans hB hc.size
  clear hown hg
  go_wp2_with fail
  refine (put_m B a v bs (List.replicate n 0) _ n n _ hw1 hB1 hs (by omega)).mono ?_
  rintro e w2 ⟨rfl, v2, hw2, hc2, hm2⟩
  have R : Chg (Foot a v) w w2 := (hc.mono (fun _ f => f.elim)).trans hc2 (fun i f => .inl f)
  have M : Moved w v v2 := (Moved.refl w v).trans hc.size hm2
  clear hc2 hm2 hw1 hs hc
  go_wp2
  go_ret
  exact ⟨rfl, v2, hw2, R, M⟩

set_option maxHeartbeats 400000 in
theorem pad_neg (n : Int) (w : World) (h : n < 0) : Calls Try.prog 18 #[.int .i64 n] w fun e w' => e = .returned (.int .i64 0) ∧ w = w' := by
  go_enter Try.func18, Try.ntmps18
  go_wp2
  go_ret
  exact ⟨rfl, rfl⟩

set_option maxHeartbeats 400000 in
theorem pad_pos (n : Int) (w : World) (h : 0 ≤ n) (h2 : n ≤ 9223372036854775807) : Calls Try.prog 18 #[.int .i64 n] w fun e w' => e = .returned (.int .i64 ((4 - n % 4) % 4)) ∧ w = w' := by
  go_enter Try.func18, Try.ntmps18
  go_wp2
  go_ret
  exact ⟨rfl, rfl⟩

theorem low_i (B a : Nat) (v : Value) (bs : List Int) (x n : Int) (w : World) (h : Wr B w a v bs) (hB : B ≤ w.heap.size) (h1 : 1 ≤ n) (h2 : n ≤ 8) (hlen : bs.length ≤ 140737488350000) :
    Calls Try.prog 15 #[.pointer (some ⟨a, 0, none⟩), .int .u64 x, .int .i64 n] w fun e w' => e = .returned (.int .i64 0) ∧ ∃ v', Wr B w' a v' (bs ++ lowBytes x n.toNat) ∧ Chg (Foot a v) w w' ∧ Moved w v v' := by
  obtain ⟨k, rfl⟩ := Int.eq_ofNat_of_zero_le (show 0 ≤ n by omega)
  rw [Int.toNat_natCast]
  exact low_yes B a v bs x k w h hB (by omega) (by omega) hlen

theorem high_i (B a : Nat) (v : Value) (bs : List Int) (x n : Int) (w : World) (h : Wr B w a v bs) (hB : B ≤ w.heap.size) (h1 : 1 ≤ n) (h2 : n ≤ 8) (hlen : bs.length ≤ 140737488350000) :
    Calls Try.prog 20 #[.pointer (some ⟨a, 0, none⟩), .int .u64 x, .int .i64 n] w fun e w' => e = .returned (.int .i64 0) ∧ ∃ v', Wr B w' a v' (bs ++ highBytes x n.toNat) ∧ Chg (Foot a v) w w' ∧ Moved w v v' := by
  obtain ⟨k, rfl⟩ := Int.eq_ofNat_of_zero_le (show 0 ≤ n by omega)
  rw [Int.toNat_natCast]
  exact high_yes B a v bs x k w h hB (by omega) (by omega) hlen

theorem zeros_i (B a : Nat) (v : Value) (bs : List Int) (n : Int) (w : World) (h : Wr B w a v bs) (hB : B ≤ w.heap.size) (h0 : 0 ≤ n) (hn : n ≤ 65536) (hlen : bs.length ≤ 140737488250000) :
    Calls Try.prog 16 #[.pointer (some ⟨a, 0, none⟩), .int .i64 n] w fun e w' => e = .returned (.int .i64 0) ∧ ∃ v', Wr B w' a v' (bs ++ List.replicate n.toNat 0) ∧ Chg (Foot a v) w w' ∧ Moved w v v' := by
  obtain ⟨k, rfl⟩ := Int.eq_ofNat_of_zero_le h0
  rw [Int.toNat_natCast]
  exact zeros_yes B a v bs k w h hB (by omega) hlen

theorem newWr {w : World} : Wr w.heap.size (w.alloc (.cells #[.int .i64 0, .slice none 0 0] 75)) w.heap.size (.slice none 0 0) [] :=
  ⟨Nat.le_refl _, by simpa using heap_alloc_new w (.cells #[.int .i64 0, .slice none 0 0] 75), World.ownsRow_nil _ _ _ _⟩

theorem len_i (B a : Nat) (v : Value) (bs : List Int) (n : Int) (w : World) (h : Wr B w a v bs) (hn : (bs.length : Int) = n) :
    Calls Try.prog 17 #[.pointer (some ⟨a, 0, none⟩)] w fun e w' => e = .returned (.int .i64 n) ∧ w = w' := by
  subst hn
  exact len_any B a v bs w h

end Go.Proofs.Ytgfibbabfpphpaa
