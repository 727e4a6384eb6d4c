/- The contracts of the statements' own functions lays and mod, of no statement by themselves. -/
import Derived.Test.YtgfibbabfpphpaaStr
namespace Go.Proofs.Ytgfibbabfpphpaa
open Go.RowKit

/-- A part as it lies in memory: a kind, a number for the width, a number, a list of bytes and where it lies. -/
structure Pt where
  kind : Int
  n : Int
  v : Int
  ad : Option Addr
  m : Nat
  c : Nat
  xs : List Int

/-- The part as a value. -/
def Pt.val (p : Pt) : Value := .agg #[.int .i64 p.kind, .int .i64 p.n, .int .u64 p.v, .slice p.ad p.m p.c]

/-- What is written of a part. -/
def Pt.bytes (p : Pt) : List Int :=
  if p.kind = 1 then lowBytes p.v (wid p.n) else if p.kind = 2 then highBytes p.v (wid p.n) else if p.kind = 4 then List.replicate (wid p.n) 0 else p.xs

/-- The part's numbers are within their kinds, its list lies in the world. -/
structure Pt.In (w : World) (p : Pt) : Prop where
  n0 : -9223372036854775808 ≤ p.n
  n1 : p.n ≤ 9223372036854775807
  v0 : 0 ≤ p.v
  v1 : p.v < 18446744073709551616
  row : Row8 w p.ad p.m p.c p.xs
  b8 : Bytes8 p.xs

set_option maxRecDepth 100000 in
set_option maxHeartbeats 1000000 in
theorem lays_low (B a : Nat) (v : Value) (bs : List Int) (n x : Int) (ad : Option Addr) (m c : Nat) (w : World) (h : Wr B w a v bs) (hB : B ≤ w.heap.size) (h0 : -9223372036854775808 ≤ n) (h1 : n ≤ 9223372036854775807) (hlen : bs.length ≤ 140737488250000) :
    Calls Try.prog 25 #[.pointer (some ⟨a, 0, none⟩), .agg #[.int .i64 1, .int .i64 n, .int .u64 x, .slice ad m c]] w fun e w' => e = .returned (.tuple #[.int .i64 (wid n), .bool true]) ∧ ∃ v', Wr B w' a v' (bs ++ lowBytes x (wid n)) ∧ Chg (Foot a v) w w' ∧ Moved w v v' := by
  obtain ⟨hw1, hw2⟩ := wid_bd n
  go_enter Try.func25, Try.ntmps25
  go_wp2_with fail
  refine (width_any _ _ h0 h1).mono ?_
  rintro e w1 ⟨rfl, rfl⟩
  go_wp2_with fail
  refine (low_yes B a v bs x (wid n) _ (h.alloc _) (by simp; omega) (by omega) (by omega) (by omega)).mono ?_
  rintro e w2 ⟨rfl, v2, hw2', hc2, hm2⟩
  have R := step_put (Chg.refl (Foot a v) w) (Moved.refl w v) hc2 hm2
  clear hc2 hm2 h
  go_wp2
  go_ret2
  exact ⟨rfl, v2, hw2', R.1, R.2⟩

set_option maxRecDepth 100000 in
set_option maxHeartbeats 1000000 in
theorem lays_high (B a : Nat) (v : Value) (bs : List Int) (n x : Int) (ad : Option Addr) (m c : Nat) (w : World) (h : Wr B w a v bs) (hB : B ≤ w.heap.size) (h0 : -9223372036854775808 ≤ n) (h1 : n ≤ 9223372036854775807) (hlen : bs.length ≤ 140737488250000) :
    Calls Try.prog 25 #[.pointer (some ⟨a, 0, none⟩), .agg #[.int .i64 2, .int .i64 n, .int .u64 x, .slice ad m c]] w fun e w' => e = .returned (.tuple #[.int .i64 (wid n), .bool true]) ∧ ∃ v', Wr B w' a v' (bs ++ highBytes x (wid n)) ∧ Chg (Foot a v) w w' ∧ Moved w v v' := by
  obtain ⟨hw1, hw2⟩ := wid_bd n
  go_enter Try.func25, Try.ntmps25
  go_wp2_with fail
  refine (width_any _ _ h0 h1).mono ?_
  rintro e w1 ⟨rfl, rfl⟩
  go_wp2_with fail
  refine (high_yes B a v bs x (wid n) _ (h.alloc _) (by simp; omega) (by omega) (by omega) (by omega)).mono ?_
  rintro e w2 ⟨rfl, v2, hw2', hc2, hm2⟩
  have R := step_put (Chg.refl (Foot a v) w) (Moved.refl w v) hc2 hm2
  clear hc2 hm2 h
  go_wp2
  go_ret2
  exact ⟨rfl, v2, hw2', R.1, R.2⟩

set_option maxRecDepth 100000 in
set_option maxHeartbeats 1000000 in
theorem lays_zeros (B a : Nat) (v : Value) (bs : List Int) (n x : Int) (ad : Option Addr) (m c : Nat) (w : World) (h : Wr B w a v bs) (hB : B ≤ w.heap.size) (h0 : -9223372036854775808 ≤ n) (h1 : n ≤ 9223372036854775807) (hlen : bs.length ≤ 140737488250000) :
    Calls Try.prog 25 #[.pointer (some ⟨a, 0, none⟩), .agg #[.int .i64 4, .int .i64 n, .int .u64 x, .slice ad m c]] w fun e w' => e = .returned (.tuple #[.int .i64 (wid n), .bool true]) ∧ ∃ v', Wr B w' a v' (bs ++ List.replicate (wid n) 0) ∧ Chg (Foot a v) w w' ∧ Moved w v v' := by
  obtain ⟨hw1, hw2⟩ := wid_bd n
  go_enter Try.func25, Try.ntmps25
  go_wp2_with fail
  refine (width_any _ _ h0 h1).mono ?_
  rintro e w1 ⟨rfl, rfl⟩
  go_wp2_with fail
  refine (zeros_yes B a v bs (wid n) _ (h.alloc _) (by simp; omega) (by omega) (by omega)).mono ?_
  rintro e w2 ⟨rfl, v2, hw2', hc2, hm2⟩
  have R := step_put (Chg.refl (Foot a v) w) (Moved.refl w v) hc2 hm2
  clear hc2 hm2 h
  go_wp2
  go_ret2
  exact ⟨rfl, v2, hw2', R.1, R.2⟩

set_option maxRecDepth 100000 in
set_option maxHeartbeats 1000000 in
theorem lays_put (B a : Nat) (v : Value) (bs xs : List Int) (kind n x : Int) (ad : Option Addr) (m c : Nat) (w : World) (h : Wr B w a v bs) (hB : B ≤ w.heap.size) (h0 : -9223372036854775808 ≤ n) (h1 : n ≤ 9223372036854775807) (hx : Row8 w ad m c xs) (hlen : bs.length + m ≤ 140737488250000)
    (hk1 : (kind == 1) = false) (hk2 : (kind == 2) = false) (hk4 : (kind == 4) = false) :
    Calls Try.prog 25 #[.pointer (some ⟨a, 0, none⟩), .agg #[.int .i64 kind, .int .i64 n, .int .u64 x, .slice ad m c]] w fun e w' => e = .returned (.tuple #[.int .i64 m, .bool true]) ∧ ∃ v', Wr B w' a v' (bs ++ xs) ∧ Chg (Foot a v) w w' ∧ Moved w v v' := by
  obtain ⟨i0, hi, hz0, hz1, hz2⟩ := info_parts info5
  obtain ⟨hw1, hw2⟩ := wid_bd n
  go_enter Try.func25, Try.ntmps25
  go_wp2_with fail
  refine (width_any _ _ h0 h1).mono ?_
  rintro e w1 ⟨rfl, rfl⟩
  have hwo := h.alloc (.cells #[.int .i64 kind, .int .i64 n, .int .u64 x, .slice ad m c] 54)
  have hxo := row8_alloc hx (.cells #[.int .i64 kind, .int .i64 n, .int .u64 x, .slice ad m c] 54)
  have hoo := heap_alloc_new w (.cells #[.int .i64 kind, .int .i64 n, .int .u64 x, .slice ad m c] 54)
  have hco : Chg (fun _ => False) w (w.alloc (.cells #[.int .i64 kind, .int .i64 n, .int .u64 x, .slice ad m c] 54)) := chg_one _ w _
  have hsz : (w.alloc (.cells #[.int .i64 kind, .int .i64 n, .int .u64 x, .slice ad m c] 54)).heap.size = w.heap.size + 1 := by simp
  have HSZ : Hid ((w.alloc (.cells #[.int .i64 kind, .int .i64 n, .int .u64 x, .slice ad m c] 54)).heap.size = w.heap.size + 1) := hsz
  have hcell3 : (w.alloc (.cells #[.int .i64 kind, .int .i64 n, .int .u64 x, .slice ad m c] 54)).cell? ⟨w.heap.size, 3, none⟩ = some (.slice ad m c) := by rw [World.cell?, hoo]; rfl
  have hoE := own_empty (w.alloc (.cells #[.int .i64 kind, .int .i64 n, .int .u64 x, .slice ad m c] 54))
  rw [hsz] at hoE
  have hfoot : ¬ Foot a v w.heap.size := fun f => by have := (h.foot _ f).2; omega
  clear hoo hsz h hx
  go_wp2_with (at_builtin; refine wpList_append_moved rfl (.tmp 38) (.tmp 40) 22 rfl (w.heap.size + 1) 5 i0 (.int .u8 0) 1 1 Try.underlying22 hi hz0 hz1 hz2 rfl (by decide) _ 0 [] rfl ad m c rfl (xs.map (Value.int .u8)) hoE (row8_alloc hxo _).src (oneCells _) (by unfold maxLen; omega) (by omega) (by simp) ?_)
  intro v1 w2 hown hg _
  have hcE : Chg (fun _ => False) (w.alloc (.cells #[.int .i64 kind, .int .i64 n, .int .u64 x, .slice ad m c] 54)) w2 := chg_empty (by rw [HSZ.out]; exact hg)
  obtain ⟨ad1, c1, rfl, hr1⟩ := own_row8 hown
  have hw2' := hwo.keep hcE (fun f => f) (fun _ _ f => f)
  have hc2 : Chg (Foot a v) w w2 := (chg_none hco).trans hcE (fun _ f => f.elim)
  have hm2 : w.heap.size ≤ w2.heap.size := hc2.size
  have hk3 : w2.cell? ⟨w.heap.size, 3, none⟩ = some (.slice ad m c) := by
    rw [World.cell?_of_block (w := w.alloc (.cells #[.int .i64 kind, .int .i64 n, .int .u64 x, .slice ad m c] 54)) (hcE.block w.heap.size (by rw [HSZ.out]; omega) (fun f => f))]
    exact hcell3
  clear hown hg hcE hco hwo hxo hoE hcell3 HSZ
  go_wp2_with fail
  refine (put_m B a v bs xs _ m c1 _ hw2' (by omega) hr1 (by omega)).mono ?_
  rintro e w3 ⟨rfl, v3, hw3, hc3, hm3⟩
  have hk4' : w3.cell? ⟨w.heap.size, 3, none⟩ = some (.slice ad m c) := by
    rw [World.cell?_of_block (w := w2) (hc3.block w.heap.size (World.block_lt_of_cell? w2 _ hk3) hfoot)]
    exact hk3
  have R1 : Chg (Foot a v) w w3 := hc2.trans hc3 (fun k f => .inl f)
  have R2 : Moved w v v3 := (Moved.refl w v).trans hm2 hm3
  clear hc3 hm3 hc2 hr1 hk3 hw2'
  go_wp2
  go_ret2
  exact ⟨rfl, v3, hw3, R1, R2⟩

theorem lays_any (B a : Nat) (v : Value) (bs : List Int) (p : Pt) (w : World) (h : Wr B w a v bs) (hB : B ≤ w.heap.size) (hp : p.In w) (hlen : bs.length + p.m ≤ 140737488250000) :
    Calls Try.prog 25 #[.pointer (some ⟨a, 0, none⟩), p.val] w fun e w' => e = .returned (.tuple #[.int .i64 p.bytes.length, .bool true]) ∧ ∃ v', Wr B w' a v' (bs ++ p.bytes) ∧ Chg (Foot a v) w w' ∧ Moved w v v' := by
  obtain ⟨kind, n, x, ad, m, c, xs⟩ := p
  obtain ⟨n0, n1, v0, v1, row, b8⟩ := hp
  unfold Pt.bytes Pt.val
  simp only at *
  by_cases k1 : kind = 1
  · subst k1
    rw [if_pos rfl, lowBytes_length]
    exact lays_low B a v bs n x ad m c w h hB n0 n1 (by omega)
  · rw [if_neg k1]
    by_cases k2 : kind = 2
    · subst k2
      rw [if_pos rfl, highBytes_length]
      exact lays_high B a v bs n x ad m c w h hB n0 n1 (by omega)
    · rw [if_neg k2]
      by_cases k4 : kind = 4
      · subst k4
        rw [if_pos rfl, List.length_replicate]
        exact lays_zeros B a v bs n x ad m c w h hB n0 n1 (by omega)
      · rw [if_neg k4, row.1]
        exact lays_put B a v bs xs kind n x ad m c w h hB n0 n1 row hlen (beq_eq_false_iff_ne.2 k1) (beq_eq_false_iff_ne.2 k2) (beq_eq_false_iff_ne.2 k4)

set_option maxHeartbeats 400000 in
theorem mod_eight (v : Int) (w : World) : Calls Try.prog 46 #[.int .u64 v, .int .i64 8] w fun e w' => e = .returned (.int .u64 v) ∧ w = w' := by
  go_enter Try.func46, Try.ntmps46
  go_wp2
  go_ret
  exact ⟨rfl, rfl⟩

theorem pow_less (n : Nat) (h : n < 8) : (1 : Int) ≤ 256 ^ n ∧ (256 : Int) ^ n < 18446744073709551616 := by
  match n, h with
  | 0, _ | 1, _ | 2, _ | 3, _ | 4, _ | 5, _ | 6, _ | 7, _ => decide

theorem wrap_pow (n : Nat) (h : n < 8) : IntKind.u64.wrap (2 ^ (8 * n)) = 256 ^ n := by
  have hp := pow_less n h
  rw [show (2 : Int) ^ (8 * n) = 256 ^ n by rw [Int.pow_mul]; rfl]
  exact wrap_u64 _ (by omega) (by omega)

theorem ret_u64 {a b : Int} (h : a = b) : Ending.returned (.int .u64 a) = .returned (.int .u64 b) := by rw [h]

set_option maxHeartbeats 400000 in
theorem mod_less (v : Int) (n : Nat) (w : World) (h1 : 1 ≤ n) (h2 : n < 8) (hv : 0 ≤ v) : Calls Try.prog 46 #[.int .u64 v, .int .i64 n] w fun e w' => e = .returned (.int .u64 (v % 256 ^ n)) ∧ w = w' := by
  have hne : ((n : Int) == 8) = false := beq_eq_false_iff_ne.2 (by omega)
  have HW : Hid (IntKind.u64.wrap (2 ^ (8 * n)) = 256 ^ n ∧ (1 : Int) ≤ 256 ^ n) := ⟨wrap_pow n h2, (pow_less n h2).1⟩
  go_enter Try.func46, Try.ntmps46
  go_wp2
  · have h0 : IntKind.u64.wrap (2 ^ (8 * n)) = 0 := by assumption
    have := HW.out
    omega
  · go_ret
    exact ⟨ret_u64 (by rw [HW.out.1]), rfl⟩

theorem mod_nat (u k : Nat) : u % 256 ^ (k + 1) = u % 256 ^ k + 256 ^ k * (u / 256 ^ k % 256) := by
  rw [Nat.pow_succ, Nat.mod_mul]

theorem lowNum_lowBytes (v : Int) (hv : 0 ≤ v) (k : Nat) : lowNum (lowBytes v k) = v % 256 ^ k := by
  obtain ⟨u, rfl⟩ := Int.eq_ofNat_of_zero_le hv
  induction k with
  | zero => simp [lowBytes, lowNum]
  | succ k ih =>
    rw [lowBytes_succ, lowNum_append, ih, lowBytes_length]
    have e1 : lowNum [byteAt (u : Int) k] = ((u / 256 ^ k % 256 : Nat) : Int) := by
      simp only [lowNum, List.foldr, byteAt]
      rw [show (2 : Int) ^ (8 * k) = ((256 ^ k : Nat) : Int) by rw [Int.pow_mul]; simp]
      simp
    rw [e1]
    have e2 : ((u : Int) % 256 ^ (k + 1)) = ((u % 256 ^ (k + 1) : Nat) : Int) := by simp
    have e3 : ((u : Int) % 256 ^ k) = ((u % 256 ^ k : Nat) : Int) := by simp
    rw [e2, e3, mod_nat]
    simp

theorem highBytes_rev (v : Int) (n : Nat) : highBytes v n = (lowBytes v n).reverse := by
  apply List.ext_getElem
  · simp [highBytes, highTo, lowBytes]
  · intro i h1 h2
    simp [highBytes, highTo, lowBytes]

theorem highNum_highBytes (v : Int) (hv : 0 ≤ v) (k : Nat) : highNum (highBytes v k) = v % 256 ^ k := by
  rw [highNum_rev, highBytes_rev, List.reverse_reverse, lowNum_lowBytes v hv k]

theorem mod_any (v : Int) (n : Nat) (w : World) (h1 : 1 ≤ n) (h2 : n ≤ 8) (hv : 0 ≤ v) (hv1 : v < 18446744073709551616) : Calls Try.prog 46 #[.int .u64 v, .int .i64 n] w fun e w' => e = .returned (.int .u64 (v % 256 ^ n)) ∧ w = w' := by
  by_cases h : n = 8
  · subst h
    have e : v % 256 ^ 8 = v := Int.emod_eq_of_lt hv (by omega)
    rw [e]
    exact mod_eight v w
  · exact mod_less v n w h1 (by omega) hv

end Go.Proofs.Ytgfibbabfpphpaa
