/- The contract of the statements' own function found, of no statement by itself. -/
import Derived.Test.YtgfibbabfpphpaaLays
namespace Go.Proofs.Ytgfibbabfpphpaa
open Go.RowKit

set_option maxRecDepth 100000 in
set_option maxHeartbeats 1000000 in
theorem found_low (B a g off : Nat) (al ys : List Int) (n x : Int) (ad : Option Addr) (m c : Nat) (w : World) (h : Rd B w a g al off) (h0 : -9223372036854775808 ≤ n) (h1 : n ≤ 9223372036854775807) (hx0 : 0 ≤ x) (hx1 : x < 18446744073709551616)
    (hb : off + wid n ≤ al.length) (HY : Hid ((al.drop off).take (wid n) = ys)) (HL : Hid (lowNum ys = x % 256 ^ wid n)) (hy8 : Bytes8 ys) :
    Calls Try.prog 27 #[.pointer (some ⟨a, 0, none⟩), .agg #[.int .i64 1, .int .i64 n, .int .u64 x, .slice ad m c]] w fun e w' => e = .returned (.bool true) ∧ Rd B w' a g al (off + wid n) ∧ Chg (fun k => k = a) w w' := by
  obtain ⟨hw1, hw2⟩ := wid_bd n
  have ha := h.lt.1
  go_enter Try.func27, Try.ntmps27
  go_wp2_with fail
  refine (width_any _ _ h0 h1).mono ?_
  rintro e w1 ⟨rfl, rfl⟩
  go_wp2_with fail
  refine (rlow_core _ _ _ _ _ ys _ _ (h.chg (chg_one _ w _)) hw1 hw2 hb hy8 HY).mono ?_
  rintro e w2 ⟨rfl, hr2, hc2⟩
  have hk2 : w2.cell? ⟨w.heap.size, 2, none⟩ = some (.int .u64 x) := by
    rw [World.cell?_of_block (w := w.alloc (.cells #[.int .i64 1, .int .i64 n, .int .u64 x, .slice ad m c] 54)) (hc2.block w.heap.size (by simp) (fun f => by omega)), World.cell?, heap_alloc_new w _]
    rfl
  have hC2 : Chg (fun k => k = a) w w2 := (chg_one _ w _).trans hc2 (fun i f => .inl f)
  rw [HL.out]
  clear h hc2
  go_wp2_with fail
  refine (mod_any _ _ _ hw1 hw2 hx0 hx1).mono ?_
  rintro e w3 ⟨rfl, rfl⟩
  clear hk2
  go_wp2
  go_ret
  exact ⟨rfl, hr2, hC2⟩

set_option maxRecDepth 100000 in
set_option maxHeartbeats 1000000 in
theorem found_high (B a g off : Nat) (al ys : List Int) (n x : Int) (ad : Option Addr) (m c : Nat) (w : World) (h : Rd B w a g al off) (h0 : -9223372036854775808 ≤ n) (h1 : n ≤ 9223372036854775807) (hx0 : 0 ≤ x) (hx1 : x < 18446744073709551616)
    (hb : off + wid n ≤ al.length) (HY : Hid ((al.drop off).take (wid n) = ys)) (HL : Hid (highNum ys = x % 256 ^ wid n)) (hy8 : Bytes8 ys) :
    Calls Try.prog 27 #[.pointer (some ⟨a, 0, none⟩), .agg #[.int .i64 2, .int .i64 n, .int .u64 x, .slice ad m c]] w fun e w' => e = .returned (.bool true) ∧ Rd B w' a g al (off + wid n) ∧ Chg (fun k => k = a) w w' := by
  obtain ⟨hw1, hw2⟩ := wid_bd n
  have ha := h.lt.1
  go_enter Try.func27, Try.ntmps27
  go_wp2_with fail
  refine (width_any _ _ h0 h1).mono ?_
  rintro e w1 ⟨rfl, rfl⟩
  go_wp2_with fail
  refine (rhigh_core _ _ _ _ _ ys _ _ (h.chg (chg_one _ w _)) hw1 hw2 hb hy8 HY).mono ?_
  rintro e w2 ⟨rfl, hr2, hc2⟩
  have hk2 : w2.cell? ⟨w.heap.size, 2, none⟩ = some (.int .u64 x) := by
    rw [World.cell?_of_block (w := w.alloc (.cells #[.int .i64 2, .int .i64 n, .int .u64 x, .slice ad m c] 54)) (hc2.block w.heap.size (by simp) (fun f => by omega)), World.cell?, heap_alloc_new w _]
    rfl
  have hC2 : Chg (fun k => k = a) w w2 := (chg_one _ w _).trans hc2 (fun i f => .inl f)
  rw [HL.out]
  clear h hc2
  go_wp2_with fail
  refine (mod_any _ _ _ hw1 hw2 hx0 hx1).mono ?_
  rintro e w3 ⟨rfl, rfl⟩
  clear hk2
  go_wp2
  go_ret
  exact ⟨rfl, hr2, hC2⟩

set_option maxRecDepth 100000 in
set_option maxHeartbeats 1000000 in
theorem found_zeros (B a g off : Nat) (al ys : List Int) (n x : Int) (ad : Option Addr) (m c : Nat) (w : World) (h : Rd B w a g al off) (h0 : -9223372036854775808 ≤ n) (h1 : n ≤ 9223372036854775807)
    (hb : off + wid n ≤ al.length) (HY : Hid ((al.drop off).take (wid n) = ys)) (HZ : Hid (∀ k, k < wid n → ys.getD k 0 = 0)) :
    Calls Try.prog 27 #[.pointer (some ⟨a, 0, none⟩), .agg #[.int .i64 4, .int .i64 n, .int .u64 x, .slice ad m c]] w fun e w' => e = .returned (.bool true) ∧ Rd B w' a g al (off + wid n) ∧ Chg (fun k => k = a) w w' := by
  obtain ⟨hw1, hw2⟩ := wid_bd n
  go_enter Try.func27, Try.ntmps27
  go_wp2_with fail
  refine (width_any _ _ h0 h1).mono ?_
  rintro e w1 ⟨rfl, rfl⟩
  go_wp2_with fail
  refine (rzeros_ok _ _ _ _ _ ys _ _ (h.chg (chg_one _ w _)) hb HY HZ).mono ?_
  rintro e w2 ⟨rfl, hr2, hc2⟩
  have hC2 : Chg (fun k => k = a) w w2 := (chg_one _ w _).trans hc2 (fun i f => .inl f)
  clear h hc2
  go_wp2
  go_ret
  exact ⟨rfl, hr2, hC2⟩

set_option maxRecDepth 100000 in
set_option maxHeartbeats 1000000 in
theorem found_put (B a g off : Nat) (al xs : List Int) (kind n x : Int) (ad : Option Addr) (m c : Nat) (w : World) (h : Rd B w a g al off) (h0 : -9223372036854775808 ≤ n) (h1 : n ≤ 9223372036854775807)
    (hb : off + m ≤ al.length) (HY : Hid ((al.drop off).take m = xs)) (hx : ∀ w2, Chg (fun k => k = a) w w2 → Row8 w2 ad m c xs)
    (hk1 : (kind == 1) = false) (hk2 : (kind == 2) = false) (hk4 : (kind == 4) = false) :
    Calls Try.prog 27 #[.pointer (some ⟨a, 0, none⟩), .agg #[.int .i64 kind, .int .i64 n, .int .u64 x, .slice ad m c]] w fun e w' => e = .returned (.bool true) ∧ Rd B w' a g al (off + m) ∧ Chg (fun k => k = a) w w' := by
  have ha := h.lt.1
  have hlen := h.len
  go_enter Try.func27, Try.ntmps27
  go_wp2_with fail
  refine (width_any _ _ h0 h1).mono ?_
  rintro e w1 ⟨rfl, rfl⟩
  go_wp2_with fail
  refine (take_ok _ _ _ _ _ m _ (h.chg (chg_one _ w _)) hb).mono ?_
  rintro e w2 ⟨q2, rfl, _, hq2, hr2, hc2⟩
  have hk3 : w2.cell? ⟨w.heap.size, 3, none⟩ = some (.slice ad m c) := by
    rw [World.cell?_of_block (w := w.alloc (.cells #[.int .i64 kind, .int .i64 n, .int .u64 x, .slice ad m c] 54)) (hc2.block w.heap.size (by simp) (fun f => by omega)), World.cell?, heap_alloc_new w _]
    rfl
  have hC2 : Chg (fun k => k = a) w w2 := (chg_one _ w _).trans hc2 (fun i f => .inl f)
  have hx2 := hx w2 hC2
  have hu2 := conv8_here hx2
  rw [HY.out] at hq2
  have hv2 := conv8_here (row8_blk hq2 m hx2.1 m)
  clear h hc2 hx hx2 hq2
  go_wp2
  go_ret
  exact ⟨rfl, hr2, hC2⟩

theorem Pt.bytes8 {w : World} {p : Pt} (hp : p.In w) : Bytes8 p.bytes := by
  unfold Pt.bytes
  split
  · exact lowBytes8 _ _
  · split
    · exact highBytes8 _ _
    · split
      · exact Bytes8.zeros _
      · exact hp.b8

theorem found_any (B a g off : Nat) (al : List Int) (p : Pt) (w : World) (h : Rd B w a g al off) (hp : ∀ w2, Chg (fun k => k = a) w w2 → p.In w2) (hb : off + p.bytes.length ≤ al.length) (hy : (al.drop off).take p.bytes.length = p.bytes) :
    Calls Try.prog 27 #[.pointer (some ⟨a, 0, none⟩), p.val] w fun e w' => e = .returned (.bool true) ∧ Rd B w' a g al (off + p.bytes.length) ∧ Chg (fun k => k = a) w w' := by
  have hp0 := hp w (Chg.refl _ w)
  have h8 := Pt.bytes8 hp0
  obtain ⟨kind, n, x, ad, m, c, xs⟩ := p
  obtain ⟨n0, n1, v0, v1, row, b8⟩ := hp0
  unfold Pt.bytes Pt.val at *
  simp only at *
  by_cases k1 : kind = 1
  · subst k1
    rw [if_pos rfl] at hb hy h8 ⊢
    rw [lowBytes_length] at hb hy ⊢
    exact found_low B a g off al _ n x ad m c w h n0 n1 v0 v1 hb hy (lowNum_lowBytes x v0 _) h8
  · rw [if_neg k1] at hb hy h8 ⊢
    by_cases k2 : kind = 2
    · subst k2
      rw [if_pos rfl] at hb hy h8 ⊢
      rw [highBytes_length] at hb hy ⊢
      exact found_high B a g off al _ n x ad m c w h n0 n1 v0 v1 hb hy (highNum_highBytes x v0 _) h8
    · rw [if_neg k2] at hb hy h8 ⊢
      by_cases k4 : kind = 4
      · subst k4
        rw [if_pos rfl] at hb hy h8 ⊢
        rw [List.length_replicate] at hb hy ⊢
        exact found_zeros B a g off al _ n x ad m c w h n0 n1 hb hy (fun k hk => by simp [List.getD, hk])
      · rw [if_neg k4] at hb hy h8 ⊢
        rw [row.1] at hb hy ⊢
        exact found_put B a g off al xs kind n x ad m c w h n0 n1 hb hy (fun w2 hc => (hp w2 hc).row) (beq_eq_false_iff_ne.2 k1) (beq_eq_false_iff_ne.2 k2) (beq_eq_false_iff_ne.2 k4)

end Go.Proofs.Ytgfibbabfpphpaa
