/- More of the contracts of wire's writer and reader; of no statement by themselves. -/
import Derived.Test.YtikokgngkagieaaDoorWire
namespace Go.Proofs.YtikokgngkagieaaDoor.Wire
open Go.RowKit
set_option linter.unusedVariables false
set_option linter.unusedSimpArgs false
/-- The n lowest bytes, the lowest first. -/
def lowBytes (v : Int) (n : Nat) : List Int := (List.range n).map (byteAt v)
theorem lowBytes_length (v : Int) (n : Nat) : (lowBytes v n).length = n := by simp [lowBytes]
theorem lowBytes_succ (v : Int) (n : Nat) : lowBytes v (n + 1) = lowBytes v n ++ [byteAt v n] := by simp [lowBytes, List.range_succ]
set_option maxHeartbeats 800000 in
theorem low_yes (B a : Nat) (v : Value) (bs : List Int) (x : Int) (n : Nat) (w : World) (h : Wr B w a v bs) (hB : B ≤ w.heap.size) (h1 : 1 ≤ n) (h2 : n ≤ 8) (hlen : bs.length ≤ 140737488350000) :
    Calls Tryd.prog 43 #[.pointer (some ⟨a, 0, none⟩), .int .u64 x, .int .i64 n] w fun e w' => e = .returned (.int .i64 0) ∧ ∃ v', Wr B w' a v' (bs ++ lowBytes x n) ∧ Chg (Foot a v) w w' ∧ Moved w v v' := by
  go_enter Tryd.func43, Tryd.ntmps43
  go_wp2_with (go_at_call 52; refine (isWidth_yes _ _ (by omega) (by omega)).mono ?_; rintro e w' ⟨rfl, rfl⟩)
  go_loopw [12] (fun i wr => ∃ k : Nat, k ≤ n ∧ i = .int .i64 k ∧ ∃ vv, Wr B wr a vv (bs ++ lowBytes x k) ∧ Chg (Foot a v) w wr ∧ Moved w v vv) (fun i _ => n - (intOf i).toNat)
  case atStart => exact ⟨0, Nat.zero_le _, rfl, v, by simpa [lowBytes] using h, Chg.refl _ _, Moved.refl _ _⟩
  case round =>
    obtain ⟨k, hk, rfl, vv, hw, hc, hm⟩ := hrel
    by_cases hlt : k < n
    · go_wp2_with fail
      refine (put_m B a vv (bs ++ lowBytes x k) [byteAt x k] _ 1 1 _ (hw.alloc _) (by have := hc.size; simp; omega) (row8_one _ _ _) (by simp [lowBytes_length]; omega)).mono ?_
      rintro e w2 ⟨rfl, v2, hw2, hc2, hm2⟩
      have R := step_put hc hm hc2 hm2
      rw [List.append_assoc, ← lowBytes_succ] at hw2
      clear hc2 hm2 hw hc hm
      go_wp2
      go_roundw
      case rel => exact ⟨k + 1, by omega, by go_num, v2, hw2, R.1, R.2⟩
      case measure => simp [intOf]; omega
    · obtain rfl : k = n := by omega
      go_wp2
      go_ret
      exact ⟨rfl, vv, hw, hc, hm⟩
theorem lowNum_append (xs ys : List Int) : lowNum (xs ++ ys) = lowNum xs + 256 ^ xs.length * lowNum ys := by
  induction xs with
  | nil => simp [lowNum]
  | cons x xs ih =>
    have e : lowNum (x :: xs ++ ys) = x + 256 * lowNum (xs ++ ys) := rfl
    have e2 : lowNum (x :: xs) = x + 256 * lowNum xs := rfl
    rw [e, ih, e2, List.length_cons, Int.pow_succ]
    generalize (256 : Int) ^ xs.length = p
    generalize lowNum xs = a
    generalize lowNum ys = b
    rw [Int.mul_add, Int.mul_comm p 256, Int.mul_assoc, Int.add_assoc]
theorem lowNum_take (ys : List Int) (k : Nat) (h : k < ys.length) : lowNum (ys.take (k + 1)) = lowNum (ys.take k) + 256 ^ k * ys[k] := by
  rw [List.take_succ_eq_append_getElem h, lowNum_append, List.length_take, Nat.min_eq_left (by omega)]
  simp [lowNum]
/-- One byte more behind those that are read, the lowest first. -/
theorem low_step (ys : List Int) (h : Bytes8 ys) (k : Nat) (hk : k < ys.length) (h8 : k < 8) :
    bits .or .u64 (lowNum (ys.take k)) (IntKind.u64.wrap (ys[k] * 256 ^ k)) = lowNum (ys.take (k + 1)) := by
  have hb := lowNum_bd (ys.take k) (h.take k)
  have hb2 := lowNum_bd (ys.take (k + 1)) (h.take (k + 1))
  have hx := h ys[k] (by simp)
  rw [lowNum_take ys k hk] at hb2 ⊢
  have hp := pow_le8 (k + 1) (by omega)
  rw [List.length_take, Nat.min_eq_left (by omega)] at hb2 hb
  generalize lowNum (ys.take k) = v at *
  generalize ys[k] = x at *
  have hpp : (0 : Int) ≤ 256 ^ k * x := Int.mul_nonneg (Int.pow_nonneg (by omega)) hx.1
  rw [Int.mul_comm x] at *
  rw [wrap_u64 _ hpp (by omega)]
  rw [u64_or _ _ (by omega) (by omega) (by omega) (by omega)]
  obtain ⟨v, rfl⟩ := Int.eq_ofNat_of_zero_le (show 0 ≤ v by omega)
  obtain ⟨x, rfl⟩ := Int.eq_ofNat_of_zero_le (show 0 ≤ x by omega)
  have e0 : (256 : Nat) ^ k = 2 ^ (8 * k) := by rw [Nat.pow_mul]
  have e1 : ((256 : Int) ^ k * (x : Int)).toNat = 2 ^ (8 * k) * x := by
    rw [show (256 : Int) ^ k * (x : Int) = ((256 ^ k * x : Nat) : Int) by simp, Int.toNat_natCast, e0]
  have hv : v < 2 ^ (8 * k) := by
    rw [← e0]
    have := hb.2
    rw [show (256 : Int) ^ k = ((256 ^ k : Nat) : Int) by simp] at this
    omega
  rw [e1, Int.toNat_natCast, Nat.or_comm, or_add (8 * k) x v hv]
  rw [show (256 : Int) ^ k * (x : Int) = ((256 ^ k * x : Nat) : Int) by simp, e0]
  omega
theorem low_step_walk (ys : List Int) (h : Bytes8 ys) (k : Nat) (hk : k < ys.length) (h8 : k < 8) :
    bits .or .u64 (lowNum (ys.take k)) (IntKind.u64.wrap (IntKind.u64.wrap ys[k] * 2 ^ (8 * k))) = lowNum (ys.take (k + 1)) := by
  have hx := h ys[k] (by simp)
  rw [wrap_u64 ys[k] (by omega) (by omega), show (2 : Int) ^ (8 * k) = 256 ^ k by rw [Int.pow_mul]; rfl]
  exact low_step ys h k hk h8
set_option maxHeartbeats 800000 in
theorem rlow_core (B a g off : Nat) (xs ys : List Int) (n : Nat) (w : World) (h : Rd B w a g xs off) (h1 : 1 ≤ n) (h2 : n ≤ 8) (hb : off + n ≤ xs.length) (hyb : Bytes8 ys) (HY : Hid ((xs.drop off).take n = ys)) :
    Calls Tryd.prog 39 #[.pointer (some ⟨a, 0, none⟩), .int .i64 n] w fun e w' => e = .returned (.tuple #[.int .u64 (lowNum ys), .int .i64 0]) ∧ Rd B w' a g xs (off + n) ∧ Chg (fun k => k = a) w w' := by
  go_enter Tryd.func39, Tryd.ntmps39
  go_wp2_with fail
  refine (number_ok _ _ _ _ _ _ _ h h1 h2 hb).mono ?_
  rintro e w2 ⟨ad, c, rfl, hs, hr, hc⟩
  have hq : Row8 w2 ad n c ys := by rw [← HY.out]; exact hs _ hr.row
  have hyl := hq.1
  obtain ⟨x, rfl, hcell⟩ := row8_cells hq h1
  clear h hs hq HY
  go_wp2_with fail
  go_loop [8, 19] (fun v i => ∃ k : Nat, k ≤ n ∧ i = .int .i64 k ∧ v = .int .u64 (lowNum (ys.take k))) (fun _ i => n - (intOf i).toNat)
  case atStart => exact ⟨0, Nat.zero_le _, rfl, rfl⟩
  case round =>
    obtain ⟨k, hk, rfl, rfl⟩ := hrel
    by_cases hlt : k < n
    · have hky : k < ys.length := by omega
      go_wp2
      go_round
      case rel => exact ⟨k + 1, by omega, by go_num, congrArg (Value.int .u64) (low_step_walk ys hyb k hky (by omega))⟩
      case measure => simp [intOf]; omega
    · obtain rfl : k = n := by omega
      have ht : ys.take k = ys := List.take_of_length_le (by omega)
      rw [ht]
      clear ht
      go_wp2
      go_ret2
      exact ⟨rfl, hr, hc⟩
set_option maxHeartbeats 400000 in
theorem peek_big (B a g off : Nat) (xs : List Int) (n : Int) (w : World) (h : Rd B w a g xs off) (hn : 0 ≤ n) (hb : (xs.length : Int) - off < n) :
    Calls Tryd.prog 57 #[.pointer (some ⟨a, 0, none⟩), .int .i64 n] w fun e w' => e = .returned (.tuple #[.slice none 0 0, .int .i64 1]) ∧ ∃ k, w' = w.drewN k := by
  go_enter Tryd.func57, Tryd.ntmps57
  go_wp2_with fail
  refine (left_any _ _ _ _ _ _ h).mono ?_
  rintro e w2 ⟨rfl, k, rfl⟩
  clear h
  go_wp2
  go_ret2
  exact ⟨rfl, _, rfl⟩
set_option maxHeartbeats 800000 in
theorem next_big (B a g off : Nat) (xs : List Int) (n : Int) (w : World) (h : Rd B w a g xs off) (hn : 0 ≤ n) (hb : (xs.length : Int) - off < n) :
    Calls Tryd.prog 54 #[.pointer (some ⟨a, 0, none⟩), .int .i64 n] w fun e w' => e = .returned (.tuple #[.slice none 0 0, .int .i64 1]) ∧ Rd B w' a g xs off ∧ Chg (fun k => k = a) w w' := by
  have hc0 : ∀ k, (w.drewN k).cell? ⟨a, 0, none⟩ = some (.int .i64 off) := fun k => cell0 h.blk
  have hf0 : ∀ k, (w.drewN k).frozen? ⟨a, 0, none⟩ = false := fun k => free0 h.blk
  have hle := h.le
  have hlen := h.len
  go_enter Tryd.func54, Tryd.ntmps54
  go_wp2_with fail
  refine (peek_big _ _ _ _ _ _ _ h hn hb).mono ?_
  rintro e w2 ⟨rfl, k, rfl⟩
  go_wp2_with fail
  refine (pass_any a off 0 _ (hc0 k) (hf0 k) (by omega) (by omega) (by omega)).mono ?_
  rintro e w2 ⟨rfl, rfl⟩
  have HR : Hid (Rd B ((w.drewN k).setCell ⟨a, 0, none⟩ (.int .i64 ((off : Int) + 0))) a g xs off) := h.set (w' := w.drewN k) rfl hle _ (by omega)
  have HC : Hid (Chg (fun k => k = a) w ((w.drewN k).setCell ⟨a, 0, none⟩ (.int .i64 ((off : Int) + 0)))) := chg_set (chg_drewN _ _) _
  clear h hc0 hf0
  go_wp2
  go_ret2
  exact ⟨rfl, HR.out, HC.out⟩
theorem row8_made {w w1 : World} {B n : Nat} {p : Value} (hown : w1.ownsRow B 5 1 p n (madeCells #[Value.int .u8 0] n).toList) (hp : p = .slice (some ⟨w.heap.size, 0, none⟩) n n) :
    Row8 w1 (some ⟨w.heap.size, 0, none⟩) n n (List.replicate n 0) := by
  have e : (madeCells #[Value.int .u8 0] n).toList = (List.replicate n (0 : Int)).map (Value.int .u8) := by
    rw [toList_madeCells_one]; simp
  rw [e] at hown
  obtain ⟨ad, c, h1, h2⟩ := own_row8 hown
  rw [hp] at h1
  simp only [Value.slice.injEq] at h1
  obtain ⟨rfl, _, rfl⟩ := h1
  exact h2
theorem byteAt_bd (v : Int) (i : Nat) : 0 ≤ byteAt v i ∧ byteAt v i ≤ 255 := by unfold byteAt; omega
theorem lowBytes8 (v : Int) (n : Nat) : Bytes8 (lowBytes v n) := fun x hx => by
  obtain ⟨i, _, rfl⟩ := List.mem_map.1 hx
  exact byteAt_bd v i
end Go.Proofs.YtikokgngkagieaaDoor.Wire
