/- The document's Put; of no statement by itself. -/
import Derived.Test.YtannepoclpmedaaDoorCe
import Derived.Test.YtannepoclpmedaaDoorSb
namespace Go.Proofs.YtannepoclpmedaaDoor
open Go.RowKit
open St12
set_option linter.unusedVariables false
set_option linter.unusedSimpArgs false
set_option maxHeartbeats 8000000 in
set_option maxRecDepth 100000 in
theorem rput17_any (k s p lc lp pb : Int) (hI : (⟨k, s, p, lc, lp, pb⟩ : Chk).I) (w : World) : Calls Tryd.prog 20 #[.agg #[.int .i64 k, .int .i64 s, .int .i64 p, .int .i64 lc, .int .i64 lp, .int .i64 pb]] w fun e w' => ∃ ov, e = .returned (.tuple #[ov, .int .i64 (Ck17.putA ⟨k, s, p, lc, lp, pb⟩).2]) ∧ ByO w' w.heap.size ov (Ck17.putA ⟨k, s, p, lc, lp, pb⟩).1 ∧ Chg (fun _ => False) w w' := by
  obtain ⟨iu, hiu, hu0, hu1, hu2⟩ := info_parts info5u
  have c0 := chg_one w (.cells #[.int .i64 k, .int .i64 s, .int .i64 p, .int .i64 lc, .int .i64 lp, .int .i64 pb] 25)
  have hb0 := heap_alloc_last w (.cells #[.int .i64 k, .int .i64 s, .int .i64 p, .int .i64 lc, .int .i64 lp, .int .i64 pb] 25)
  obtain ⟨m0, m1, m2, m3, m4, m5⟩ := cells6 hb0
  have HC0 : Hid (Chg (fun _ => False) w (w.alloc (.cells #[.int .i64 k, .int .i64 s, .int .i64 p, .int .i64 lc, .int .i64 lp, .int .i64 pb] 25))) := c0
  have HI : Hid ((⟨k, s, p, lc, lp, pb⟩ : Chk).I) := hI
  have is := hI.2.1
  have ip := hI.2.2.1
  unfold I64 at is ip
  clear c0 hb0 hI
  go_enter Tryd.func20, Tryd.ntmps20
  by_cases h1 : k < 0
  · have d1 : decide (k < 0) = true := decide_eq_true (by omega)
    have HA : Hid (Ck17.putA ⟨k, s, p, lc, lp, pb⟩ = ([], 6)) := by show _ = _; unfold Ck17.putA; simp only; rw [if_pos (by omega)]
    clear is ip
    go_wp2
    go_ret2
    rw [HA.out]
    exact ⟨_, rfl, byO_nil _ _, HC0.out⟩
  by_cases h2 : 6 < k
  · have d1 : decide (k < 0) = false := decide_eq_false (by omega)
    have d2 : decide (6 < k) = true := decide_eq_true (by omega)
    have HA : Hid (Ck17.putA ⟨k, s, p, lc, lp, pb⟩ = ([], 6)) := by show _ = _; unfold Ck17.putA; simp only; rw [if_pos (by omega)]
    clear is ip
    go_wp2
    go_ret2
    rw [HA.out]
    exact ⟨_, rfl, byO_nil _ _, HC0.out⟩
  have d1 : decide (k < 0) = false := decide_eq_false (by omega)
  have d2 : decide (6 < k) = false := decide_eq_false (by omega)
  by_cases h3 : k = 0
  · subst h3
    by_cases h4 : s = 0
    rotate_left
    · have e4 : (s != 0) = true := by simp [h4]
      have HA : Hid (Ck17.putA ⟨0, s, p, lc, lp, pb⟩ = ([], 7)) := by show _ = _; simp [Ck17.putA, h4]
      clear is ip
      go_wp2
      go_ret2
      rw [HA.out]
      exact ⟨_, rfl, byO_nil _ _, HC0.out⟩
    subst h4
    by_cases h5 : p = 0
    rotate_left
    · have e5 : (p != 0) = true := by simp [h5]
      have HA : Hid (Ck17.putA ⟨0, 0, p, lc, lp, pb⟩ = ([], 7)) := by show _ = _; simp [Ck17.putA, h5]
      clear is ip
      go_wp2
      go_ret2
      rw [HA.out]
      exact ⟨_, rfl, byO_nil _ _, HC0.out⟩
    subst h5
    have HA : Hid (Ck17.putA ⟨0, 0, 0, lc, lp, pb⟩ = ([0], 0)) := by show _ = _; unfold Ck17.putA; simp
    have HO : Hid _ := byO_lit w (.cells #[.int .i64 0, .int .i64 0, .int .i64 0, .int .i64 lc, .int .i64 lp, .int .i64 pb] 25) [0] 1 rfl (by omega) #[.int .u8 0] rfl
    have HC1 : Hid _ := chg_one (w.alloc (.cells #[.int .i64 0, .int .i64 0, .int .i64 0, .int .i64 lc, .int .i64 lp, .int .i64 pb] 25)) (.cells #[.int .u8 0] 5)
    clear is ip
    go_wp2
    go_ret2
    rw [HA.out]
    exact ⟨_, rfl, HO.out, chg_then HC0.out HC1.out⟩
  have e3 : (k == 0) = false := by simp [h3]
  by_cases h7 : k < 3
  · have d3 : decide (k < 3) = true := decide_eq_true (by omega)
    by_cases h4 : s < 1
    · have d4 : decide (s < 1) = true := decide_eq_true (by omega)
      have HA : Hid (Ck17.putA ⟨k, s, p, lc, lp, pb⟩ = ([], 7)) := by show _ = _; unfold Ck17.putA; simp only; rw [if_neg (by omega), if_neg h3, if_pos h7, if_pos (by omega)]
      clear is ip
      go_wp2
      go_ret2
      rw [HA.out]
      exact ⟨_, rfl, byO_nil _ _, HC0.out⟩
    have d4 : decide (s < 1) = false := decide_eq_false (by omega)
    by_cases h5 : 65536 < s
    · have d5 : decide (65536 < s) = true := decide_eq_true (by omega)
      have HA : Hid (Ck17.putA ⟨k, s, p, lc, lp, pb⟩ = ([], 7)) := by show _ = _; unfold Ck17.putA; simp only; rw [if_neg (by omega), if_neg h3, if_pos h7, if_pos (by omega)]
      clear is ip
      go_wp2
      go_ret2
      rw [HA.out]
      exact ⟨_, rfl, byO_nil _ _, HC0.out⟩
    have d5 : decide (65536 < s) = false := decide_eq_false (by omega)
    by_cases h6 : p = s
    rotate_left
    · have e6 : (p != s) = true := by simp [h6]
      have HA : Hid (Ck17.putA ⟨k, s, p, lc, lp, pb⟩ = ([], 7)) := by show _ = _; unfold Ck17.putA; simp only; rw [if_neg (by omega), if_neg h3, if_pos h7, if_pos (.inr h6)]
      clear is ip
      go_wp2
      go_ret2
      rw [HA.out]
      exact ⟨_, rfl, byO_nil _ _, HC0.out⟩
    subst h6
    have e6 : (p != p) = false := by simp
    obtain ⟨N, hN⟩ : ∃ N : Nat, p - 1 = (N : Int) := ⟨(p - 1).toNat, by omega⟩
    obtain ⟨K, rfl⟩ : ∃ K : Nat, (K : Int) = k := ⟨k.toNat, by omega⟩
    have HA : Hid (Ck17.putA ⟨(K : Int), p, p, lc, lp, pb⟩ = ([K, N / 256, N % 256], 0)) := by show _ = _; unfold Ck17.putA; simp only; rw [if_neg (by omega), if_neg h3, if_pos h7, if_neg (by omega), hN]; simp
    have q1 : (N : Int).tdiv 256 = ((N / 256 : Nat) : Int) := rfl
    have q2 : (N : Int).tmod 256 = ((N % 256 : Nat) : Int) := rfl
    have hN9 : (N : Int) ≤ 65535 := by omega
    have w0 : IntKind.u8.wrap (K : Int) = (K : Int) := wr8 (by omega) (by omega)
    have w1 : IntKind.u8.wrap ((N / 256 : Nat) : Int) = ((N / 256 : Nat) : Int) := wr8 (by omega) (by omega)
    have w2 : IntKind.u8.wrap ((N % 256 : Nat) : Int) = ((N % 256 : Nat) : Int) := wr8 (by omega) (by omega)
    have HO : Hid _ := byO_lit w (.cells #[.int .i64 (K : Int), .int .i64 p, .int .i64 p, .int .i64 lc, .int .i64 lp, .int .i64 pb] 25) [K, N / 256, N % 256] 3 rfl (by omega) #[.int .u8 (K : Int), .int .u8 ((N / 256 : Nat) : Int), .int .u8 ((N % 256 : Nat) : Int)] rfl
    have HC1 : Hid _ := chg_one (w.alloc (.cells #[.int .i64 (K : Int), .int .i64 p, .int .i64 p, .int .i64 lc, .int .i64 lp, .int .i64 pb] 25)) (.cells #[.int .u8 (K : Int), .int .u8 ((N / 256 : Nat) : Int), .int .u8 ((N % 256 : Nat) : Int)] 5)
    have hA9 : ((N / 256 : Nat) : Int) ≤ 255 := by omega
    have hB9 : ((N % 256 : Nat) : Int) ≤ 255 := by omega
    have hK9 : (K : Int) ≤ 2 := by omega
    generalize N / 256 = A at *
    generalize N % 256 = B at *
    clear is ip h1 h2 h3 h4 h5 h7
    go_wp2
    go_ret2
    rw [HA.out]
    exact ⟨_, rfl, HO.out, chg_then HC0.out HC1.out⟩
  have d3 : decide (k < 3) = false := decide_eq_false (by omega)
  by_cases h4 : s < 1
  · have d4 : decide (s < 1) = true := decide_eq_true (by omega)
    have HA : Hid (Ck17.putA ⟨k, s, p, lc, lp, pb⟩ = ([], 7)) := by show _ = _; unfold Ck17.putA; simp only; rw [if_neg (by omega), if_neg h3, if_neg h7, if_pos (by omega)]
    clear is ip
    go_wp2
    go_ret2
    rw [HA.out]
    exact ⟨_, rfl, byO_nil _ _, HC0.out⟩
  have d4 : decide (s < 1) = false := decide_eq_false (by omega)
  by_cases h5 : 2097152 < s
  · have d5 : decide (2097152 < s) = true := decide_eq_true (by omega)
    have HA : Hid (Ck17.putA ⟨k, s, p, lc, lp, pb⟩ = ([], 7)) := by show _ = _; unfold Ck17.putA; simp only; rw [if_neg (by omega), if_neg h3, if_neg h7, if_pos (by omega)]
    clear is ip
    go_wp2
    go_ret2
    rw [HA.out]
    exact ⟨_, rfl, byO_nil _ _, HC0.out⟩
  have d5 : decide (2097152 < s) = false := decide_eq_false (by omega)
  by_cases h6 : p < 1
  · have d6 : decide (p < 1) = true := decide_eq_true (by omega)
    have HA : Hid (Ck17.putA ⟨k, s, p, lc, lp, pb⟩ = ([], 7)) := by show _ = _; unfold Ck17.putA; simp only; rw [if_neg (by omega), if_neg h3, if_neg h7, if_pos (by omega)]
    clear is ip
    go_wp2
    go_ret2
    rw [HA.out]
    exact ⟨_, rfl, byO_nil _ _, HC0.out⟩
  have d6 : decide (p < 1) = false := decide_eq_false (by omega)
  by_cases h8 : 65536 < p
  · have d8 : decide (65536 < p) = true := decide_eq_true (by omega)
    have HA : Hid (Ck17.putA ⟨k, s, p, lc, lp, pb⟩ = ([], 7)) := by show _ = _; unfold Ck17.putA; simp only; rw [if_neg (by omega), if_neg h3, if_neg h7, if_pos (by omega)]
    clear is ip
    go_wp2
    go_ret2
    rw [HA.out]
    exact ⟨_, rfl, byO_nil _ _, HC0.out⟩
  have d8 : decide (65536 < p) = false := decide_eq_false (by omega)
  obtain ⟨N, hN⟩ : ∃ N : Nat, s - 1 = (N : Int) := ⟨(s - 1).toNat, by omega⟩
  obtain ⟨M, hM⟩ : ∃ M : Nat, p - 1 = (M : Int) := ⟨(p - 1).toNat, by omega⟩
  obtain ⟨K, hK⟩ : ∃ K : Nat, k - 3 = (K : Int) := ⟨(k - 3).toNat, by omega⟩
  have HF : Hid (Ck17.five k s p = [128 + 32 * K + N / 65536, N / 256 % 256, N % 256, M / 256, M % 256]) := by show _ = _; unfold Ck17.five; rw [hN, hM, hK]; simp
  have q0 : (N : Int).tdiv 65536 = ((N / 65536 : Nat) : Int) := rfl
  have q1 : (N : Int).tdiv 256 = ((N / 256 : Nat) : Int) := rfl
  have q2 : ((N / 256 : Nat) : Int).tmod 256 = ((N / 256 % 256 : Nat) : Int) := rfl
  have q3 : (N : Int).tmod 256 = ((N % 256 : Nat) : Int) := rfl
  have q4 : (M : Int).tdiv 256 = ((M / 256 : Nat) : Int) := rfl
  have q5 : (M : Int).tmod 256 = ((M % 256 : Nat) : Int) := rfl
  have hN9 : (N : Int) ≤ 2097151 := by omega
  have hM9 : (M : Int) ≤ 65535 := by omega
  have hK9 : (K : Int) ≤ 3 := by omega
  have b0 : N / 65536 ≤ 31 := by omega
  have b1 : N / 256 % 256 ≤ 255 := by omega
  have b2 : N % 256 ≤ 255 := by omega
  have b3 : M / 256 ≤ 255 := by omega
  have b4 : M % 256 ≤ 255 := by omega
  have b9 : N / 256 ≤ 8191 := by omega
  generalize N / 65536 = A0 at *
  generalize N / 256 % 256 = A1 at *
  generalize N / 256 = A9 at *
  generalize N % 256 = A2 at *
  generalize M / 256 = A3 at *
  generalize M % 256 = A4 at *
  have w0 : IntKind.u8.wrap ((128 : Int) + 32 * (K : Int) + (A0 : Int)) = (128 : Int) + 32 * (K : Int) + (A0 : Int) := wr8 (by omega) (by omega)
  have w1 : IntKind.u8.wrap (A1 : Int) = (A1 : Int) := wr8 (by omega) (by omega)
  have w2 : IntKind.u8.wrap (A2 : Int) = (A2 : Int) := wr8 (by omega) (by omega)
  have w3 : IntKind.u8.wrap (A3 : Int) = (A3 : Int) := wr8 (by omega) (by omega)
  have w4 : IntKind.u8.wrap (A4 : Int) = (A4 : Int) := wr8 (by omega) (by omega)
  have hO5 := byO_lit w (.cells #[.int .i64 k, .int .i64 s, .int .i64 p, .int .i64 lc, .int .i64 lp, .int .i64 pb] 25) [128 + 32 * K + A0, A1, A2, A3, A4] 5 rfl (by omega) #[.int .u8 ((128 : Int) + 32 * (K : Int) + (A0 : Int)), .int .u8 (A1 : Int), .int .u8 (A2 : Int), .int .u8 (A3 : Int), .int .u8 (A4 : Int)] (by simp [ins, nums])
  have c1 := chg_one (w.alloc (.cells #[.int .i64 k, .int .i64 s, .int .i64 p, .int .i64 lc, .int .i64 lp, .int .i64 pb] 25)) (.cells #[.int .u8 ((128 : Int) + 32 * (K : Int) + (A0 : Int)), .int .u8 (A1 : Int), .int .u8 (A2 : Int), .int .u8 (A3 : Int), .int .u8 (A4 : Int)] 5)
  have HO5 : Hid _ := hO5
  have HC1 : Hid _ := c1
  obtain ⟨m0', m1', m2', m3', m4', m5'⟩ := cells6 (blk_keep (heap_alloc_last w (.cells #[.int .i64 k, .int .i64 s, .int .i64 p, .int .i64 lc, .int .i64 lp, .int .i64 pb] 25)) c1 (fun f => f))
  have HKK : Hid (k - 3 = (K : Int) ∧ s - 1 = (N : Int) ∧ p - 1 = (M : Int)) := ⟨hK, hN, hM⟩
  have a9 : (A9 : Int) ≤ 8191 := by omega
  have a0 : (A0 : Int) ≤ 31 := by omega
  have f1 : (A1 : Int) ≤ 255 := by omega
  have f2 : (A2 : Int) ≤ 255 := by omega
  have f3 : (A3 : Int) ≤ 255 := by omega
  have f4 : (A4 : Int) ≤ 255 := by omega
  clear hO5 c1 b0 b1 b2 b3 b4 b9 HKK
  by_cases h5b : k < 5
  · have d9 : decide (k < 5) = true := decide_eq_true h5b
    have HA : Hid (Ck17.putA ⟨k, s, p, lc, lp, pb⟩ = ([128 + 32 * K + A0, A1, A2, A3, A4], 0)) := by show _ = _; unfold Ck17.putA; simp only; rw [if_neg (by omega), if_neg h3, if_neg h7, if_neg (by omega), if_pos h5b, HF.out]
    clear is ip h1 h2 h3 h4 h5 h6 h7 h8 h5b HF
    go_wp2
    go_ret2
    rw [HA.out]
    exact ⟨_, rfl, HO5.out, chg_then HC0.out HC1.out⟩
  · have d9 : decide (k < 5) = false := decide_eq_false h5b
    have HPB : Hid (∀ ww, Calls Tryd.prog 31 #[.agg #[.int .i64 lc, .int .i64 lp, .int .i64 pb]] ww fun e w' => e = .returned (.tuple #[.int .i64 (byteP ⟨lc, lp, pb⟩).1, .int .i64 (byteP ⟨lc, lp, pb⟩).2]) ∧ Chg (fun _ => False) ww w') := rpb_q lc lp pb HI.out.2.2.2.1 HI.out.2.2.2.2.1 HI.out.2.2.2.2.2
    have hpr : 0 ≤ (byteP ⟨lc, lp, pb⟩).1 ∧ (byteP ⟨lc, lp, pb⟩).1 ≤ 224 := by
      unfold byteP
      split
      · next ha =>
        obtain ⟨⟨r1, r2, r3⟩, r4, r5⟩ := ha
        simp only at r1 r2 r3 r4 r5 ⊢
        omega
      · decide
    obtain ⟨bv, be, hbv⟩ : ∃ a b, byteP ⟨lc, lp, pb⟩ = (a, b) := ⟨_, _, rfl⟩
    rw [hbv] at HPB hpr
    simp only at HPB hpr
    obtain ⟨BV, rfl⟩ : ∃ x : Nat, (x : Int) = bv := ⟨bv.toNat, by omega⟩
    have HA : Hid (Ck17.putA ⟨k, s, p, lc, lp, pb⟩ = if be ≠ 0 then ([], 6) else ([128 + 32 * K + A0, A1, A2, A3, A4] ++ [BV], 0)) := by show _ = _; unfold Ck17.putA; simp only; rw [if_neg (by omega), if_neg h3, if_neg h7, if_neg (by omega), if_neg h5b, HF.out, hbv]; simp
    have hBV : (BV : Int) ≤ 224 := hpr.2
    clear is ip h1 h2 h3 h4 h5 h6 h7 h8 h5b HF hpr hbv
    go_upto_region 18 with fail
    generalize hW : (w.alloc (.cells #[.int .i64 k, .int .i64 s, .int .i64 p, .int .i64 lc, .int .i64 lp, .int .i64 pb] 25)).alloc (.cells #[.int .u8 ((128 : Int) + 32 * (K : Int) + (A0 : Int)), .int .u8 (A1 : Int), .int .u8 (A2 : Int), .int .u8 (A3 : Int), .int .u8 (A4 : Int)] 5) = W5 at *
    go_wp2_with fail
    refine Calls.mono (HPB.out _) ?_
    rintro z w6 ⟨rfl, c6⟩
    have HC6 : Hid (Chg (fun _ => False) w w6) := chg_then (chg_then HC0.out HC1.out) c6
    have HO6 : Hid (ByO w6 w.heap.size (.slice (some ⟨w.heap.size + 1, 0, none⟩) 5 5) [128 + 32 * K + A0, A1, A2, A3, A4]) := ByO.new (B := w.heap.size) (bs := [128 + 32 * K + A0, A1, A2, A3, A4]) HO5.out c6
    clear c6 HPB HO5 HC1
    by_cases hbe : be = 0
    rotate_left
    · have e9 : (be != 0) = true := by simp [hbe]
      have e9' : (be == 0) = false := by simp [hbe]
      rw [if_pos hbe] at HA
      clear hbe
      go_wp2
      go_ret2
      rw [HA.out]
      exact ⟨_, rfl, byO_nil _ _, HC6.out⟩
    · subst hbe
      rw [if_neg (by simp)] at HA
      have w9 : IntKind.u8.wrap (BV : Int) = (BV : Int) := wr8 (by omega) (by omega)
      have c7 := chg_one w6 (.cells #[.int .u8 (BV : Int)] 5)
      have hown : (w6.alloc (.cells #[.int .u8 (BV : Int)] 5)).ownsRow w.heap.size 5 1 (.slice (some ⟨w.heap.size + 1, 0, none⟩) 5 5) 5 ((nums [128 + 32 * K + A0, A1, A2, A3, A4]).map (Value.int .u8)) := HO6.out.new c7
      have hsrc := (Bk.row8_one w6 (BV : Int) 5).src
      have hone := oneB [BV]
      have hB7 := Nat.le_trans HC6.out.size c7.size
      have HC7 : Hid (Chg (fun _ => False) w (w6.alloc (.cells #[.int .u8 (BV : Int)] 5))) := chg_then HC6.out c7
      clear c7
      go_wp2_with (at_builtin; refine wpList_append_moved rfl _ _ 26 rfl w.heap.size 5 iu (.int .u8 0) 1 1 Tryd.underlying26 hiu hu0 hu1 hu2 rfl (by decide) _ 5 ((nums [128 + 32 * K + A0, A1, A2, A3, A4]).map (Value.int .u8)) rfl (some ⟨w6.heap.size, 0, none⟩) 1 1 rfl ((nums [BV]).map (Value.int .u8)) ?h1 ?h2 ?h3 ?m1 ?m2 ?m3 ?_)
      case h1 => exact hown
      case h2 => exact hsrc
      case h3 => exact hone
      case m1 => unfold maxLen; omega
      case m2 => omega
      case m3 => exact hB7
      intro v8 w8 ho8 hg8 hm8
      have c8 : Chg (fun _ => False) w w8 := HC7.out.grown hg8 (fun j e => .inr (by simp [Value.ownBlock] at e; omega))
      have HO8 : Hid (ByO w8 w.heap.size v8 ([128 + 32 * K + A0, A1, A2, A3, A4] ++ [BV])) := byO_app ho8
      have HC8 : Hid (Chg (fun _ => False) w w8) := c8
      obtain ⟨a8, d8, rfl⟩ := form1 ho8
      clear ho8 hg8 hm8 c8 hown hsrc hone hB7
      go_wp2
      go_ret2
      rw [HA.out]
      exact ⟨_, rfl, HO8.out, HC8.out⟩
end Go.Proofs.YtannepoclpmedaaDoor
