/- The contracts of the writer's Low and High: what each call answers and what it leaves of the writer, of no statement by themselves. -/
import Derived.Test.YtgfibbabfpphpaaWriter
namespace Go.Proofs.Ytgfibbabfpphpaa
open Go.RowKit

set_option maxHeartbeats 400000 in
theorem isWidth_yes (n : Int) (w : World) (h1 : 1 ≤ n) (h2 : n ≤ 8) : Calls Try.prog 35 #[.int .i64 n] w fun e w' => e = .returned (.bool true) ∧ w = w' := by
  go_enter Try.func35, Try.ntmps35
  go_wp2
  go_ret
  exact ⟨rfl, rfl⟩

set_option maxHeartbeats 400000 in
theorem isWidth_no (n : Int) (w : World) (h : n < 1 ∨ 8 < n) : Calls Try.prog 35 #[.int .i64 n] w fun e w' => e = .returned (.bool false) ∧ w = w' := by
  rcases h with h | h
  · go_enter Try.func35, Try.ntmps35
    go_wp2
    go_ret
    exact ⟨rfl, rfl⟩
  · have h1 : 1 ≤ n := by omega
    have hd : decide (n ≤ 8) = false := by simp; omega
    go_enter Try.func35, Try.ntmps35
    go_wp2
    go_ret
    exact ⟨rfl, rfl⟩

/-- The byte i of a number, the lowest first. -/
def byteAt (v : Int) (i : Nat) : Int := v / 2 ^ (8 * i) % 256
/-- The n lowest bytes, the lowest first. -/
def lowBytes (v : Int) (n : Nat) : List Int := (List.range n).map (byteAt v)
theorem lowBytes_length (v : Int) (n : Nat) : (lowBytes v n).length = n := by simp [lowBytes]
theorem lowBytes_succ (v : Int) (n : Nat) : lowBytes v (n + 1) = lowBytes v n ++ [byteAt v n] := by simp [lowBytes, List.range_succ]

theorem row8_one (w : World) (x : Int) (t : TypeId) : Row8 (w.alloc (.cells #[.int .u8 x] t)) (some ⟨w.heap.size, 0, none⟩) 1 1 [x] := by
  refine ⟨rfl, .inr ⟨_, rfl, ?_⟩⟩
  intro j u hu
  match j, hu with
  | 0, hu => simp at hu; subst hu; simp [Addr.add]

theorem chg_one (S : Nat → Prop) (w : World) (o : Obj) : Chg S w (w.alloc o) := (Chg.refl S w).alloc o

/-- A writer is as it was behind a new block. -/
theorem Wr.alloc {B : Nat} {w : World} {a : Nat} {v : Value} {bs : List Int} (h : Wr B w a v bs) (o : Obj) : Wr B (w.alloc o) a v bs :=
  h.keep (chg_one (fun _ => False) w o) (fun f => f) (fun _ _ f => f)

/-- One byte more: what the call of Put leaves, told of the world ahead of the new block. -/
theorem step_put {a : Nat} {v vv v2 : Value} {w wr w2 : World} {o : Obj} (hc : Chg (Foot a v) w wr) (hm : Moved w v vv) (hc2 : Chg (Foot a vv) (wr.alloc o) w2) (hm2 : Moved (wr.alloc o) vv v2) :
    Chg (Foot a v) w w2 ∧ Moved w v v2 :=
  ⟨(hc.alloc o).trans hc2 (hm.foot a), hm.trans (Nat.le_trans hc.size (by simp)) hm2⟩

set_option maxHeartbeats 800000 in
theorem low_yes (B a : Nat) (v : Value) (bs : List Int) (x : Int) (n : Nat) (w : World) (h : Wr B w a v bs) (hB : B ≤ w.heap.size) (h1 : 1 ≤ n) (h2 : n ≤ 8) (hlen : bs.length ≤ 140737488350000) :
    Calls Try.prog 15 #[.pointer (some ⟨a, 0, none⟩), .int .u64 x, .int .i64 n] w fun e w' => e = .returned (.int .i64 0) ∧ ∃ v', Wr B w' a v' (bs ++ lowBytes x n) ∧ Chg (Foot a v) w w' ∧ Moved w v v' := by
  go_enter Try.func15, Try.ntmps15
  go_wp2_with (go_at_call 35; refine (isWidth_yes _ _ (by omega) (by omega)).mono ?_; rintro e w' ⟨rfl, rfl⟩)
  go_loopw [12] (fun i wr => ∃ k : Nat, k ≤ n ∧ i = .int .i64 k ∧ ∃ vv, Wr B wr a vv (bs ++ lowBytes x k) ∧ Chg (Foot a v) w wr ∧ Moved w v vv) (fun i _ => n - (intOf i).toNat)
  case atStart => exact ⟨0, Nat.zero_le _, rfl, v, by simpa [lowBytes] using h, Chg.refl _ _, Moved.refl _ _⟩
  case round =>
    obtain ⟨k, hk, rfl, vv, hw, hc, hm⟩ := hrel
    by_cases hlt : k < n
    · go_wp2_with fail
      refine (put_m B a vv (bs ++ lowBytes x k) [byteAt x k] _ 1 1 _ (hw.alloc _) (by have := hc.size; simp; omega) (row8_one _ _ _) (by simp [lowBytes_length]; omega)).mono ?_
      rintro e w2 ⟨rfl, v2, hw2, hc2, hm2⟩
      have R := step_put hc hm hc2 hm2
      rw [List.append_assoc, ← lowBytes_succ] at hw2
      clear hc2 hm2 hw hc hm
      go_wp2
      go_roundw
      case rel => exact ⟨k + 1, by omega, by go_num, v2, hw2, R.1, R.2⟩
      case measure => simp [intOf]; omega
    · obtain rfl : k = n := by omega
      go_wp2
      go_ret
      exact ⟨rfl, vv, hw, hc, hm⟩

set_option maxHeartbeats 400000 in
theorem low_no (a : Nat) (x n : Int) (w : World) (h : n < 1 ∨ 8 < n) :
    Calls Try.prog 15 #[.pointer (some ⟨a, 0, none⟩), .int .u64 x, .int .i64 n] w fun e w' => e = .returned (.int .i64 6) ∧ w = w' := by
  go_enter Try.func15, Try.ntmps15
  go_wp2_with (go_at_call 35; refine (isWidth_no _ _ h).mono ?_; rintro e w' ⟨rfl, rfl⟩)
  go_ret
  exact ⟨rfl, rfl⟩

set_option maxHeartbeats 400000 in
theorem high_no (a : Nat) (x n : Int) (w : World) (h : n < 1 ∨ 8 < n) :
    Calls Try.prog 20 #[.pointer (some ⟨a, 0, none⟩), .int .u64 x, .int .i64 n] w fun e w' => e = .returned (.int .i64 6) ∧ w = w' := by
  go_enter Try.func20, Try.ntmps20
  go_wp2_with (go_at_call 35; refine (isWidth_no _ _ h).mono ?_; rintro e w' ⟨rfl, rfl⟩)
  go_ret
  exact ⟨rfl, rfl⟩

/-- The k highest of the n lowest bytes, the highest first. -/
def highTo (v : Int) (n k : Nat) : List Int := (List.range k).map fun i => byteAt v (n - 1 - i)
/-- The n lowest bytes, the highest first. -/
def highBytes (v : Int) (n : Nat) : List Int := highTo v n n
theorem highTo_length (v : Int) (n k : Nat) : (highTo v n k).length = k := by simp [highTo]
theorem highTo_succ (v : Int) (n k : Nat) : highTo v n (k + 1) = highTo v n k ++ [byteAt v (n - 1 - k)] := by simp [highTo, List.range_succ]

set_option maxHeartbeats 800000 in
theorem high_yes (B a : Nat) (v : Value) (bs : List Int) (x : Int) (n : Nat) (w : World) (h : Wr B w a v bs) (hB : B ≤ w.heap.size) (h1 : 1 ≤ n) (h2 : n ≤ 8) (hlen : bs.length ≤ 140737488350000) :
    Calls Try.prog 20 #[.pointer (some ⟨a, 0, none⟩), .int .u64 x, .int .i64 n] w fun e w' => e = .returned (.int .i64 0) ∧ ∃ v', Wr B w' a v' (bs ++ highBytes x n) ∧ Chg (Foot a v) w w' ∧ Moved w v v' := by
  go_enter Try.func20, Try.ntmps20
  go_wp2_with (go_at_call 35; refine (isWidth_yes _ _ (by omega) (by omega)).mono ?_; rintro e w' ⟨rfl, rfl⟩)
  go_loopw [12] (fun i wr => ∃ k : Nat, k ≤ n ∧ i = .int .i64 k ∧ ∃ vv, Wr B wr a vv (bs ++ highTo x n k) ∧ Chg (Foot a v) w wr ∧ Moved w v vv) (fun i _ => n - (intOf i).toNat)
  case atStart => exact ⟨0, Nat.zero_le _, rfl, v, by simpa [highTo] using h, Chg.refl _ _, Moved.refl _ _⟩
  case round =>
    obtain ⟨k, hk, rfl, vv, hw, hc, hm⟩ := hrel
    by_cases hlt : k < n
    · go_wp2_with fail
      refine (put_m B a vv (bs ++ highTo x n k) [byteAt x (n - 1 - k)] _ 1 1 _ (hw.alloc _) (by have := hc.size; simp; omega) (row8_one _ _ _) (by simp [highTo_length]; omega)).mono ?_
      rintro e w2 ⟨rfl, v2, hw2, hc2, hm2⟩
      have R := step_put hc hm hc2 hm2
      rw [List.append_assoc, ← highTo_succ] at hw2
      clear hc2 hm2 hw hc hm
      go_wp2
      go_roundw
      case rel => exact ⟨k + 1, by omega, by go_num, v2, hw2, R.1, R.2⟩
      case measure => simp [intOf]; omega
    · obtain rfl : k = n := by omega
      go_wp2
      go_ret
      exact ⟨rfl, vv, hw, hc, hm⟩

end Go.Proofs.Ytgfibbabfpphpaa
