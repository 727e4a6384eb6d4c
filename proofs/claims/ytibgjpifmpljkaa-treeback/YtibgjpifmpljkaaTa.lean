/- The contracts of the document's small functions of trees (two, There, refused); of no statement by themselves. -/
import Derived.Test.YtibgjpifmpljkaaTm
import Derived.Test.YtibgjpifmpljkaaLastQ
import Derived.Test.YtibgjpifmpljkaaBoundC
namespace Go.Proofs.Ytibgjpifmpljkaa
open Go.RowKit
set_option linter.unusedVariables false

/-- The tree is there; the number has such bits. -/
def Stands (len : Nat) (p n : Int) : Prop := 0 ≤ n ∧ n ≤ 16 ∧ 0 ≤ p ∧ p + 2 ^ n.toNat ≤ (len : Int)
def Fits (len : Nat) (p n v : Int) : Prop := Stands len p n ∧ 0 ≤ v ∧ v < 2 ^ n.toNat
instance (len : Nat) (p n : Int) : Decidable (Stands len p n) := by unfold Stands; infer_instance
instance (len : Nat) (p n v : Int) : Decidable (Fits len p n v) := by unfold Fits; infer_instance

theorem pow16 {n : Nat} (hn : n ≤ 16) : 2 ^ n ≤ 65536 := Nat.pow_le_pow_right (n := 2) (by omega) hn
set_option maxHeartbeats 1000000 in
theorem two_any (n y : Nat) (hn : n ≤ 16) (hy : y = 2 ^ n) (w : World) : Calls Try.prog 91 #[.int .i64 (n : Int)] w fun e w' => e = .returned (.int .i64 (y : Int)) ∧ w = w' := by
  have HY : Hid (y = 2 ^ n) := hy
  clear hy
  go_enter Try.func91, Try.ntmps91
  go_wp2_with fail
  go_loopw [3, 4] (fun v iv wr => ∃ k x : Nat, k ≤ n ∧ Hid (x = 2 ^ k) ∧ v = .int .i64 (x : Int) ∧ iv = .int .i64 (k : Int) ∧ Hid (wr = w)) (fun _ iv _ => n - (intOf iv).toNat)
  case atStart => exact ⟨0, 1, Nat.zero_le _, rfl, rfl, rfl, rfl⟩
  case round =>
    obtain ⟨k, x, hk, HX, rfl, rfl, HW⟩ := hrel
    have x2 : (x : Int) ≤ 65536 := by have := HX.out; have := pow16 (n := k) (by omega); omega
    by_cases hlt : k < n
    · have HP : Hid (2 * x = 2 ^ (k + 1)) := by show _ = _; rw [HX.out, Nat.pow_succ]; omega
      have hm : IntKind.i64.wrap (2 * (x : Int)) = 2 * (x : Int) := wr64 (by omega) (by omega)
      go_wp2_with fail
      go_roundw
      case rel => exact ⟨k + 1, 2 * x, by omega, HP.out, by go_num, by go_num, HW.out⟩
      case measure => simp [intOf]; omega
    · have hkn : n = k := by omega
      subst hkn
      have hd : decide ((n : Int) < (n : Int)) = false := by simp
      have hxy : x = y := by rw [HX.out, HY.out]
      subst hxy
      go_wp2
      go_ret
      exact ⟨rfl, HW.out.symm⟩

set_option maxHeartbeats 4000000 in
set_option maxRecDepth 100000 in
theorem there_any (B r : Nat) (m p n : Int) (v : Value) (xs : List Int) (len : Nat) (w0 : World) (h : Rt w0 B r m v xs) (hl : xs.length = len) (hlen : len ≤ 1048576) (hp : I64 p) (hn : I64 n) : Calls Try.prog 90 #[.pointer (some ⟨r, 0, none⟩), .int .i64 p, .int .i64 n] w0 fun e w' => e = .returned (.bool (decide (Stands len p n))) ∧ Chg (fun _ => False) w0 w' := by
  have k1 := cell1 h.blk
  obtain ⟨ad, cap, hv, _⟩ := own_any h.own
  rw [hl] at hv
  subst hv
  obtain ⟨hp1, hp2⟩ := hp
  obtain ⟨hn1, hn2⟩ := hn
  have HST : Hid (Stands len p n → 0 ≤ n ∧ n ≤ 16 ∧ 0 ≤ p ∧ p ≤ (len : Int)) := fun ⟨h1, h2, h3, h4⟩ => ⟨h1, h2, h3, by have : (0 : Int) ≤ 2 ^ n.toNat := Int.le_of_lt (Int.pow_pos (by decide)); omega⟩
  clear h hl
  by_cases c0 : 0 ≤ n
  rotate_left
  · have q0 : decide (0 ≤ n) = false := by simp; omega
    go_enter Try.func90, Try.ntmps90
    go_wp2_with fail
    refine wp_region_phaseQ (mk := fun u => #[_, _, _, _, _, _, _, u 7, u 8, u 9, u 10, u 11, u 12, u 13, u 14, u 15, u 16, u 17, u 18, u 19, u 20, u 21, u 22, u 23, u 24, u 25, u 26, u 27, u 28, u 29, u 30, u 31, u 32, u 33, u 34, u 35, u 36, u 37]) (G := lookG [(7, .int .i64 n), (8, .bool false), (9, .bool false), (10, undef), (11, undef), (12, .bool false), (13, .bool false), (14, undef), (15, undef), (16, .bool false), (17, .bool false), (18, undef), (19, undef), (20, undef), (21, undef), (22, undef), (23, undef), (24, undef), (25, .bool false), (26, .bool false), (27, undef), (28, undef), (29, undef), (30, undef), (31, undef), (32, undef), (33, undef), (34, undef), (35, undef), (36, undef), (37, .bool false)]) (J := fun _ _ w => Chg (fun _ => False) w0 w) [] (fun i =>  0) ([]) (fun _ => undef) rfl (by kernel_rfl) 31 _ rfl rfl (by kernel_rfl) (by kernel_rfl) (by kernel_rfl) (by decide) ?_ ?_ ?_ (by kernel_rfl) ?_ ?_
    · repeat (refine ⟨fun _ _ => rfl, ?_⟩)
      exact trivial
    · exact fun q u u2 w _ h => h
    · exact (Chg.refl _ _).drew
    · refine ⟨?_, ?_, ?_, ?_, ?_, ?_, ?_, ?_, ?_, ?_, ?_, ?_, ?_, ?_, ?_, ?_, ?_, ?_, ?_, ?_, ?_, ?_, ?_, ?_, ?_, ?_, ?_, ?_, ?_, ?_, ?_, trivial⟩
      · show StepRQ _ _ _ _ _ _ _ _ _ -- 7
        unfold StepRQ
        intro q hq u w hj hd K hK
        clear hd
        go_simp
        exact hK.out (.int .i64 n) rfl
      · show StepRQ _ _ _ _ _ _ _ _ _ -- 8
        unfold StepRQ
        intro q hq u w hj hd K hK
        have h7 : u 7 = .int .i64 n := hd.get 0 (by kernel_rfl)
        clear hd
        simp only [h7] at hK
        go_simp
        exact hK.out (.bool false) rfl
      · show StepRQ _ _ _ _ _ _ _ _ _ -- 9
        unfold StepRQ
        intro q hq u w hj hd K hK
        have h8 : u 8 = .bool false := hd.get 1 (by kernel_rfl)
        clear hd
        simp only [h8] at hK
        go_simp
        exact hK.out (.bool false) rfl
      · show StepRQ _ _ _ _ _ _ _ _ _ -- 10
        unfold StepRQ
        intro q hq u w hj hd K hK
        have h9 : u 9 = .bool false := hd.get 2 (by kernel_rfl)
        clear hd
        simp only [h9] at hK
        go_simp
        exact hK.out undef rfl
      · show StepRQ _ _ _ _ _ _ _ _ _ -- 11
        unfold StepRQ
        intro q hq u w hj hd K hK
        have h10 : u 10 = undef := hd.get 3 (by kernel_rfl)
        have h9 : u 9 = .bool false := hd.get 2 (by kernel_rfl)
        clear hd
        simp only [h10, h9] at hK
        go_simp
        exact hK.out undef rfl
      · show StepRQ _ _ _ _ _ _ _ _ _ -- 12
        unfold StepRQ
        intro q hq u w hj hd K hK
        have h9 : u 9 = .bool false := hd.get 2 (by kernel_rfl)
        have h11 : u 11 = undef := hd.get 4 (by kernel_rfl)
        clear hd
        simp only [h9, h11] at hK
        go_simp
        exact hK.out (.bool false) rfl
      · show StepRQ _ _ _ _ _ _ _ _ _ -- 13
        unfold StepRQ
        intro q hq u w hj hd K hK
        have h12 : u 12 = .bool false := hd.get 5 (by kernel_rfl)
        clear hd
        simp only [h12] at hK
        go_simp
        exact hK.out (.bool false) rfl
      · show StepRQ _ _ _ _ _ _ _ _ _ -- 14
        unfold StepRQ
        intro q hq u w hj hd K hK
        have h13 : u 13 = .bool false := hd.get 6 (by kernel_rfl)
        clear hd
        simp only [h13] at hK
        go_simp
        exact hK.out undef rfl
      · show StepRQ _ _ _ _ _ _ _ _ _ -- 15
        unfold StepRQ
        intro q hq u w hj hd K hK
        have h14 : u 14 = undef := hd.get 7 (by kernel_rfl)
        have h13 : u 13 = .bool false := hd.get 6 (by kernel_rfl)
        clear hd
        simp only [h14, h13] at hK
        go_simp
        exact hK.out undef rfl
      · show StepRQ _ _ _ _ _ _ _ _ _ -- 16
        unfold StepRQ
        intro q hq u w hj hd K hK
        have h13 : u 13 = .bool false := hd.get 6 (by kernel_rfl)
        have h15 : u 15 = undef := hd.get 8 (by kernel_rfl)
        clear hd
        simp only [h13, h15] at hK
        go_simp
        exact hK.out (.bool false) rfl
      · show StepRQ _ _ _ _ _ _ _ _ _ -- 17
        unfold StepRQ
        intro q hq u w hj hd K hK
        have h16 : u 16 = .bool false := hd.get 9 (by kernel_rfl)
        clear hd
        simp only [h16] at hK
        go_simp
        exact hK.out (.bool false) rfl
      · show StepRQ _ _ _ _ _ _ _ _ _ -- 18
        unfold StepRQ
        intro q hq u w hj hd K hK
        have h17 : u 17 = .bool false := hd.get 10 (by kernel_rfl)
        clear hd
        simp only [h17] at hK
        go_simp
        exact hK.out undef rfl
      · show StepRQ _ _ _ _ _ _ _ _ _ -- 19
        unfold StepRQ
        intro q hq u w hj hd K hK
        have h17 : u 17 = .bool false := hd.get 10 (by kernel_rfl)
        clear hd
        simp only [h17] at hK
        go_simp
        exact hK.out undef rfl
      · show StepRQ _ _ _ _ _ _ _ _ _ -- 20
        unfold StepRQ
        intro q hq u w hj hd K hK
        have h19 : u 19 = undef := hd.get 12 (by kernel_rfl)
        have h17 : u 17 = .bool false := hd.get 10 (by kernel_rfl)
        clear hd
        simp only [h19, h17] at hK
        go_simp
        exact hK.out undef rfl
      · show StepRQ _ _ _ _ _ _ _ _ _ -- 21
        unfold StepRQ
        intro q hq u w hj hd K hK
        have h20 : u 20 = undef := hd.get 13 (by kernel_rfl)
        have h17 : u 17 = .bool false := hd.get 10 (by kernel_rfl)
        clear hd
        simp only [h20, h17] at hK
        go_simp
        exact hK.out undef rfl
      · show StepRQ _ _ _ _ _ _ _ _ _ -- 22
        unfold StepRQ
        intro q hq u w hj hd K hK
        have h21 : u 21 = undef := hd.get 14 (by kernel_rfl)
        have h17 : u 17 = .bool false := hd.get 10 (by kernel_rfl)
        clear hd
        simp only [h21, h17] at hK
        go_simp
        exact hK.out undef rfl
      · show StepRQ _ _ _ _ _ _ _ _ _ -- 23
        unfold StepRQ
        intro q hq u w hj hd K hK
        have h22 : u 22 = undef := hd.get 15 (by kernel_rfl)
        have h17 : u 17 = .bool false := hd.get 10 (by kernel_rfl)
        clear hd
        simp only [h22, h17] at hK
        go_simp
        exact hK.out undef rfl
      · show StepRQ _ _ _ _ _ _ _ _ _ -- 24
        unfold StepRQ
        intro q hq u w hj hd K hK
        have h18 : u 18 = undef := hd.get 11 (by kernel_rfl)
        have h23 : u 23 = undef := hd.get 16 (by kernel_rfl)
        have h17 : u 17 = .bool false := hd.get 10 (by kernel_rfl)
        clear hd
        simp only [h18, h23, h17] at hK
        go_simp
        exact hK.out undef rfl
      · show StepRQ _ _ _ _ _ _ _ _ _ -- 25
        unfold StepRQ
        intro q hq u w hj hd K hK
        have h17 : u 17 = .bool false := hd.get 10 (by kernel_rfl)
        have h24 : u 24 = undef := hd.get 17 (by kernel_rfl)
        clear hd
        simp only [h17, h24] at hK
        go_simp
        exact hK.out (.bool false) rfl
      · show StepRQ _ _ _ _ _ _ _ _ _ -- 26
        unfold StepRQ
        intro q hq u w hj hd K hK
        have h25 : u 25 = .bool false := hd.get 18 (by kernel_rfl)
        clear hd
        simp only [h25] at hK
        go_simp
        exact hK.out (.bool false) rfl
      · show StepRQ _ _ _ _ _ _ _ _ _ -- 27
        unfold StepRQ
        intro q hq u w hj hd K hK
        have h26 : u 26 = .bool false := hd.get 19 (by kernel_rfl)
        clear hd
        simp only [h26] at hK
        go_simp
        exact hK.out undef rfl
      · show StepRQ _ _ _ _ _ _ _ _ _ -- 28
        unfold StepRQ
        intro q hq u w hj hd K hK
        have h27 : u 27 = undef := hd.get 20 (by kernel_rfl)
        have h26 : u 26 = .bool false := hd.get 19 (by kernel_rfl)
        clear hd
        simp only [h27, h26] at hK
        go_simp
        exact hK.out undef rfl
      · show StepRQ _ _ _ _ _ _ _ _ _ -- 29
        unfold StepRQ
        intro q hq u w hj hd K hK
        have h26 : u 26 = .bool false := hd.get 19 (by kernel_rfl)
        clear hd
        simp only [h26] at hK
        go_simp
        exact hK.out undef rfl
      · show StepRQ _ _ _ _ _ _ _ _ _ -- 30
        unfold StepRQ
        intro q hq u w hj hd K hK
        have h29 : u 29 = undef := hd.get 22 (by kernel_rfl)
        have h26 : u 26 = .bool false := hd.get 19 (by kernel_rfl)
        clear hd
        simp only [h29, h26] at hK
        go_simp
        exact hK.out undef rfl
      · show StepRQ _ _ _ _ _ _ _ _ _ -- 31
        unfold StepRQ
        intro q hq u w hj hd K hK
        have h30 : u 30 = undef := hd.get 23 (by kernel_rfl)
        have h26 : u 26 = .bool false := hd.get 19 (by kernel_rfl)
        clear hd
        simp only [h30, h26] at hK
        go_simp
        exact hK.out undef rfl
      · show StepRQ _ _ _ _ _ _ _ _ _ -- 32
        unfold StepRQ
        intro q hq u w hj hd K hK
        have h31 : u 31 = undef := hd.get 24 (by kernel_rfl)
        have h26 : u 26 = .bool false := hd.get 19 (by kernel_rfl)
        clear hd
        simp only [h31, h26] at hK
        go_simp
        exact hK.out undef rfl
      · show StepRQ _ _ _ _ _ _ _ _ _ -- 33
        unfold StepRQ
        intro q hq u w hj hd K hK
        have h32 : u 32 = undef := hd.get 25 (by kernel_rfl)
        have h26 : u 26 = .bool false := hd.get 19 (by kernel_rfl)
        clear hd
        simp only [h32, h26] at hK
        go_simp
        exact hK.out undef rfl
      · show StepRQ _ _ _ _ _ _ _ _ _ -- 34
        unfold StepRQ
        intro q hq u w hj hd K hK
        have h26 : u 26 = .bool false := hd.get 19 (by kernel_rfl)
        clear hd
        simp only [h26] at hK
        go_simp
        exact hK.out undef rfl
      · show StepRQ _ _ _ _ _ _ _ _ _ -- 35
        unfold StepRQ
        intro q hq u w hj hd K hK
        have h33 : u 33 = undef := hd.get 26 (by kernel_rfl)
        have h34 : u 34 = undef := hd.get 27 (by kernel_rfl)
        have h26 : u 26 = .bool false := hd.get 19 (by kernel_rfl)
        clear hd
        simp only [h33, h34, h26] at hK
        go_simp
        exact hK.out undef rfl
      · show StepRQ _ _ _ _ _ _ _ _ _ -- 36
        unfold StepRQ
        intro q hq u w hj hd K hK
        have h28 : u 28 = undef := hd.get 21 (by kernel_rfl)
        have h35 : u 35 = undef := hd.get 28 (by kernel_rfl)
        have h26 : u 26 = .bool false := hd.get 19 (by kernel_rfl)
        clear hd
        simp only [h28, h35, h26] at hK
        go_simp
        exact hK.out undef rfl
      · show StepRQ _ _ _ _ _ _ _ _ _ -- 37
        unfold StepRQ
        intro q hq u w hj hd K hK
        have h26 : u 26 = .bool false := hd.get 19 (by kernel_rfl)
        have h36 : u 36 = undef := hd.get 29 (by kernel_rfl)
        clear hd
        simp only [h26, h36] at hK
        go_simp
        exact hK.out (.bool false) rfl
    · intro u w hj hA K hK
      have e37 : u 37 = .bool false := hA.at 37 (by kernel_rfl)
      clear hA
      have HCJ : Hid (Chg (fun _ => False) w0 w) := hj
      go_simp
      refine hK.out _ _ ?_
      go_wp2
      go_ret
      exact ⟨by rw [show decide (Stands len p n) = false from decide_eq_false (fun h => by obtain ⟨h1, h2, h3, h4⟩ := HST.out h; omega)]; rfl, HCJ.out⟩
  by_cases c1 : n ≤ 16
  rotate_left
  · have q1 : decide (n ≤ 16) = false := by simp; omega
    go_enter Try.func90, Try.ntmps90
    go_wp2_with fail
    refine wp_region_phaseQ (mk := fun u => #[_, _, _, _, _, _, _, u 7, u 8, u 9, u 10, u 11, u 12, u 13, u 14, u 15, u 16, u 17, u 18, u 19, u 20, u 21, u 22, u 23, u 24, u 25, u 26, u 27, u 28, u 29, u 30, u 31, u 32, u 33, u 34, u 35, u 36, u 37]) (G := lookG [(7, .int .i64 n), (8, .bool true), (9, .bool true), (10, .int .i64 n), (11, .bool false), (12, .bool false), (13, .bool false), (14, undef), (15, undef), (16, .bool false), (17, .bool false), (18, undef), (19, undef), (20, undef), (21, undef), (22, undef), (23, undef), (24, undef), (25, .bool false), (26, .bool false), (27, undef), (28, undef), (29, undef), (30, undef), (31, undef), (32, undef), (33, undef), (34, undef), (35, undef), (36, undef), (37, .bool false)]) (J := fun _ _ w => Chg (fun _ => False) w0 w) [] (fun i =>  0) ([]) (fun _ => undef) rfl (by kernel_rfl) 31 _ rfl rfl (by kernel_rfl) (by kernel_rfl) (by kernel_rfl) (by decide) ?_ ?_ ?_ (by kernel_rfl) ?_ ?_
    · repeat (refine ⟨fun _ _ => rfl, ?_⟩)
      exact trivial
    · exact fun q u u2 w _ h => h
    · exact (Chg.refl _ _).drew
    · refine ⟨?_, ?_, ?_, ?_, ?_, ?_, ?_, ?_, ?_, ?_, ?_, ?_, ?_, ?_, ?_, ?_, ?_, ?_, ?_, ?_, ?_, ?_, ?_, ?_, ?_, ?_, ?_, ?_, ?_, ?_, ?_, trivial⟩
      · show StepRQ _ _ _ _ _ _ _ _ _ -- 7
        unfold StepRQ
        intro q hq u w hj hd K hK
        clear hd
        go_simp
        exact hK.out (.int .i64 n) rfl
      · show StepRQ _ _ _ _ _ _ _ _ _ -- 8
        unfold StepRQ
        intro q hq u w hj hd K hK
        have h7 : u 7 = .int .i64 n := hd.get 0 (by kernel_rfl)
        clear hd
        simp only [h7] at hK
        go_simp
        exact hK.out (.bool true) rfl
      · show StepRQ _ _ _ _ _ _ _ _ _ -- 9
        unfold StepRQ
        intro q hq u w hj hd K hK
        have h8 : u 8 = .bool true := hd.get 1 (by kernel_rfl)
        clear hd
        simp only [h8] at hK
        go_simp
        exact hK.out (.bool true) rfl
      · show StepRQ _ _ _ _ _ _ _ _ _ -- 10
        unfold StepRQ
        intro q hq u w hj hd K hK
        have h9 : u 9 = .bool true := hd.get 2 (by kernel_rfl)
        clear hd
        simp only [h9] at hK
        go_simp
        exact hK.out (.int .i64 n) rfl
      · show StepRQ _ _ _ _ _ _ _ _ _ -- 11
        unfold StepRQ
        intro q hq u w hj hd K hK
        have h10 : u 10 = .int .i64 n := hd.get 3 (by kernel_rfl)
        have h9 : u 9 = .bool true := hd.get 2 (by kernel_rfl)
        clear hd
        simp only [h10, h9] at hK
        go_simp
        exact hK.out (.bool false) rfl
      · show StepRQ _ _ _ _ _ _ _ _ _ -- 12
        unfold StepRQ
        intro q hq u w hj hd K hK
        have h9 : u 9 = .bool true := hd.get 2 (by kernel_rfl)
        have h11 : u 11 = .bool false := hd.get 4 (by kernel_rfl)
        clear hd
        simp only [h9, h11] at hK
        go_simp
        exact hK.out (.bool false) rfl
      · show StepRQ _ _ _ _ _ _ _ _ _ -- 13
        unfold StepRQ
        intro q hq u w hj hd K hK
        have h12 : u 12 = .bool false := hd.get 5 (by kernel_rfl)
        clear hd
        simp only [h12] at hK
        go_simp
        exact hK.out (.bool false) rfl
      · show StepRQ _ _ _ _ _ _ _ _ _ -- 14
        unfold StepRQ
        intro q hq u w hj hd K hK
        have h13 : u 13 = .bool false := hd.get 6 (by kernel_rfl)
        clear hd
        simp only [h13] at hK
        go_simp
        exact hK.out undef rfl
      · show StepRQ _ _ _ _ _ _ _ _ _ -- 15
        unfold StepRQ
        intro q hq u w hj hd K hK
        have h14 : u 14 = undef := hd.get 7 (by kernel_rfl)
        have h13 : u 13 = .bool false := hd.get 6 (by kernel_rfl)
        clear hd
        simp only [h14, h13] at hK
        go_simp
        exact hK.out undef rfl
      · show StepRQ _ _ _ _ _ _ _ _ _ -- 16
        unfold StepRQ
        intro q hq u w hj hd K hK
        have h13 : u 13 = .bool false := hd.get 6 (by kernel_rfl)
        have h15 : u 15 = undef := hd.get 8 (by kernel_rfl)
        clear hd
        simp only [h13, h15] at hK
        go_simp
        exact hK.out (.bool false) rfl
      · show StepRQ _ _ _ _ _ _ _ _ _ -- 17
        unfold StepRQ
        intro q hq u w hj hd K hK
        have h16 : u 16 = .bool false := hd.get 9 (by kernel_rfl)
        clear hd
        simp only [h16] at hK
        go_simp
        exact hK.out (.bool false) rfl
      · show StepRQ _ _ _ _ _ _ _ _ _ -- 18
        unfold StepRQ
        intro q hq u w hj hd K hK
        have h17 : u 17 = .bool false := hd.get 10 (by kernel_rfl)
        clear hd
        simp only [h17] at hK
        go_simp
        exact hK.out undef rfl
      · show StepRQ _ _ _ _ _ _ _ _ _ -- 19
        unfold StepRQ
        intro q hq u w hj hd K hK
        have h17 : u 17 = .bool false := hd.get 10 (by kernel_rfl)
        clear hd
        simp only [h17] at hK
        go_simp
        exact hK.out undef rfl
      · show StepRQ _ _ _ _ _ _ _ _ _ -- 20
        unfold StepRQ
        intro q hq u w hj hd K hK
        have h19 : u 19 = undef := hd.get 12 (by kernel_rfl)
        have h17 : u 17 = .bool false := hd.get 10 (by kernel_rfl)
        clear hd
        simp only [h19, h17] at hK
        go_simp
        exact hK.out undef rfl
      · show StepRQ _ _ _ _ _ _ _ _ _ -- 21
        unfold StepRQ
        intro q hq u w hj hd K hK
        have h20 : u 20 = undef := hd.get 13 (by kernel_rfl)
        have h17 : u 17 = .bool false := hd.get 10 (by kernel_rfl)
        clear hd
        simp only [h20, h17] at hK
        go_simp
        exact hK.out undef rfl
      · show StepRQ _ _ _ _ _ _ _ _ _ -- 22
        unfold StepRQ
        intro q hq u w hj hd K hK
        have h21 : u 21 = undef := hd.get 14 (by kernel_rfl)
        have h17 : u 17 = .bool false := hd.get 10 (by kernel_rfl)
        clear hd
        simp only [h21, h17] at hK
        go_simp
        exact hK.out undef rfl
      · show StepRQ _ _ _ _ _ _ _ _ _ -- 23
        unfold StepRQ
        intro q hq u w hj hd K hK
        have h22 : u 22 = undef := hd.get 15 (by kernel_rfl)
        have h17 : u 17 = .bool false := hd.get 10 (by kernel_rfl)
        clear hd
        simp only [h22, h17] at hK
        go_simp
        exact hK.out undef rfl
      · show StepRQ _ _ _ _ _ _ _ _ _ -- 24
        unfold StepRQ
        intro q hq u w hj hd K hK
        have h18 : u 18 = undef := hd.get 11 (by kernel_rfl)
        have h23 : u 23 = undef := hd.get 16 (by kernel_rfl)
        have h17 : u 17 = .bool false := hd.get 10 (by kernel_rfl)
        clear hd
        simp only [h18, h23, h17] at hK
        go_simp
        exact hK.out undef rfl
      · show StepRQ _ _ _ _ _ _ _ _ _ -- 25
        unfold StepRQ
        intro q hq u w hj hd K hK
        have h17 : u 17 = .bool false := hd.get 10 (by kernel_rfl)
        have h24 : u 24 = undef := hd.get 17 (by kernel_rfl)
        clear hd
        simp only [h17, h24] at hK
        go_simp
        exact hK.out (.bool false) rfl
      · show StepRQ _ _ _ _ _ _ _ _ _ -- 26
        unfold StepRQ
        intro q hq u w hj hd K hK
        have h25 : u 25 = .bool false := hd.get 18 (by kernel_rfl)
        clear hd
        simp only [h25] at hK
        go_simp
        exact hK.out (.bool false) rfl
      · show StepRQ _ _ _ _ _ _ _ _ _ -- 27
        unfold StepRQ
        intro q hq u w hj hd K hK
        have h26 : u 26 = .bool false := hd.get 19 (by kernel_rfl)
        clear hd
        simp only [h26] at hK
        go_simp
        exact hK.out undef rfl
      · show StepRQ _ _ _ _ _ _ _ _ _ -- 28
        unfold StepRQ
        intro q hq u w hj hd K hK
        have h27 : u 27 = undef := hd.get 20 (by kernel_rfl)
        have h26 : u 26 = .bool false := hd.get 19 (by kernel_rfl)
        clear hd
        simp only [h27, h26] at hK
        go_simp
        exact hK.out undef rfl
      · show StepRQ _ _ _ _ _ _ _ _ _ -- 29
        unfold StepRQ
        intro q hq u w hj hd K hK
        have h26 : u 26 = .bool false := hd.get 19 (by kernel_rfl)
        clear hd
        simp only [h26] at hK
        go_simp
        exact hK.out undef rfl
      · show StepRQ _ _ _ _ _ _ _ _ _ -- 30
        unfold StepRQ
        intro q hq u w hj hd K hK
        have h29 : u 29 = undef := hd.get 22 (by kernel_rfl)
        have h26 : u 26 = .bool false := hd.get 19 (by kernel_rfl)
        clear hd
        simp only [h29, h26] at hK
        go_simp
        exact hK.out undef rfl
      · show StepRQ _ _ _ _ _ _ _ _ _ -- 31
        unfold StepRQ
        intro q hq u w hj hd K hK
        have h30 : u 30 = undef := hd.get 23 (by kernel_rfl)
        have h26 : u 26 = .bool false := hd.get 19 (by kernel_rfl)
        clear hd
        simp only [h30, h26] at hK
        go_simp
        exact hK.out undef rfl
      · show StepRQ _ _ _ _ _ _ _ _ _ -- 32
        unfold StepRQ
        intro q hq u w hj hd K hK
        have h31 : u 31 = undef := hd.get 24 (by kernel_rfl)
        have h26 : u 26 = .bool false := hd.get 19 (by kernel_rfl)
        clear hd
        simp only [h31, h26] at hK
        go_simp
        exact hK.out undef rfl
      · show StepRQ _ _ _ _ _ _ _ _ _ -- 33
        unfold StepRQ
        intro q hq u w hj hd K hK
        have h32 : u 32 = undef := hd.get 25 (by kernel_rfl)
        have h26 : u 26 = .bool false := hd.get 19 (by kernel_rfl)
        clear hd
        simp only [h32, h26] at hK
        go_simp
        exact hK.out undef rfl
      · show StepRQ _ _ _ _ _ _ _ _ _ -- 34
        unfold StepRQ
        intro q hq u w hj hd K hK
        have h26 : u 26 = .bool false := hd.get 19 (by kernel_rfl)
        clear hd
        simp only [h26] at hK
        go_simp
        exact hK.out undef rfl
      · show StepRQ _ _ _ _ _ _ _ _ _ -- 35
        unfold StepRQ
        intro q hq u w hj hd K hK
        have h33 : u 33 = undef := hd.get 26 (by kernel_rfl)
        have h34 : u 34 = undef := hd.get 27 (by kernel_rfl)
        have h26 : u 26 = .bool false := hd.get 19 (by kernel_rfl)
        clear hd
        simp only [h33, h34, h26] at hK
        go_simp
        exact hK.out undef rfl
      · show StepRQ _ _ _ _ _ _ _ _ _ -- 36
        unfold StepRQ
        intro q hq u w hj hd K hK
        have h28 : u 28 = undef := hd.get 21 (by kernel_rfl)
        have h35 : u 35 = undef := hd.get 28 (by kernel_rfl)
        have h26 : u 26 = .bool false := hd.get 19 (by kernel_rfl)
        clear hd
        simp only [h28, h35, h26] at hK
        go_simp
        exact hK.out undef rfl
      · show StepRQ _ _ _ _ _ _ _ _ _ -- 37
        unfold StepRQ
        intro q hq u w hj hd K hK
        have h26 : u 26 = .bool false := hd.get 19 (by kernel_rfl)
        have h36 : u 36 = undef := hd.get 29 (by kernel_rfl)
        clear hd
        simp only [h26, h36] at hK
        go_simp
        exact hK.out (.bool false) rfl
    · intro u w hj hA K hK
      have e37 : u 37 = .bool false := hA.at 37 (by kernel_rfl)
      clear hA
      have HCJ : Hid (Chg (fun _ => False) w0 w) := hj
      go_simp
      refine hK.out _ _ ?_
      go_wp2
      go_ret
      exact ⟨by rw [show decide (Stands len p n) = false from decide_eq_false (fun h => by obtain ⟨h1, h2, h3, h4⟩ := HST.out h; omega)]; rfl, HCJ.out⟩
  by_cases c2 : 0 ≤ p
  rotate_left
  · have q2 : decide (0 ≤ p) = false := by simp; omega
    go_enter Try.func90, Try.ntmps90
    go_wp2_with fail
    refine wp_region_phaseQ (mk := fun u => #[_, _, _, _, _, _, _, u 7, u 8, u 9, u 10, u 11, u 12, u 13, u 14, u 15, u 16, u 17, u 18, u 19, u 20, u 21, u 22, u 23, u 24, u 25, u 26, u 27, u 28, u 29, u 30, u 31, u 32, u 33, u 34, u 35, u 36, u 37]) (G := lookG [(7, .int .i64 n), (8, .bool true), (9, .bool true), (10, .int .i64 n), (11, .bool true), (12, .bool true), (13, .bool true), (14, .int .i64 p), (15, .bool false), (16, .bool false), (17, .bool false), (18, undef), (19, undef), (20, undef), (21, undef), (22, undef), (23, undef), (24, undef), (25, .bool false), (26, .bool false), (27, undef), (28, undef), (29, undef), (30, undef), (31, undef), (32, undef), (33, undef), (34, undef), (35, undef), (36, undef), (37, .bool false)]) (J := fun _ _ w => Chg (fun _ => False) w0 w) [] (fun i =>  0) ([]) (fun _ => undef) rfl (by kernel_rfl) 31 _ rfl rfl (by kernel_rfl) (by kernel_rfl) (by kernel_rfl) (by decide) ?_ ?_ ?_ (by kernel_rfl) ?_ ?_
    · repeat (refine ⟨fun _ _ => rfl, ?_⟩)
      exact trivial
    · exact fun q u u2 w _ h => h
    · exact (Chg.refl _ _).drew
    · refine ⟨?_, ?_, ?_, ?_, ?_, ?_, ?_, ?_, ?_, ?_, ?_, ?_, ?_, ?_, ?_, ?_, ?_, ?_, ?_, ?_, ?_, ?_, ?_, ?_, ?_, ?_, ?_, ?_, ?_, ?_, ?_, trivial⟩
      · show StepRQ _ _ _ _ _ _ _ _ _ -- 7
        unfold StepRQ
        intro q hq u w hj hd K hK
        clear hd
        go_simp
        exact hK.out (.int .i64 n) rfl
      · show StepRQ _ _ _ _ _ _ _ _ _ -- 8
        unfold StepRQ
        intro q hq u w hj hd K hK
        have h7 : u 7 = .int .i64 n := hd.get 0 (by kernel_rfl)
        clear hd
        simp only [h7] at hK
        go_simp
        exact hK.out (.bool true) rfl
      · show StepRQ _ _ _ _ _ _ _ _ _ -- 9
        unfold StepRQ
        intro q hq u w hj hd K hK
        have h8 : u 8 = .bool true := hd.get 1 (by kernel_rfl)
        clear hd
        simp only [h8] at hK
        go_simp
        exact hK.out (.bool true) rfl
      · show StepRQ _ _ _ _ _ _ _ _ _ -- 10
        unfold StepRQ
        intro q hq u w hj hd K hK
        have h9 : u 9 = .bool true := hd.get 2 (by kernel_rfl)
        clear hd
        simp only [h9] at hK
        go_simp
        exact hK.out (.int .i64 n) rfl
      · show StepRQ _ _ _ _ _ _ _ _ _ -- 11
        unfold StepRQ
        intro q hq u w hj hd K hK
        have h10 : u 10 = .int .i64 n := hd.get 3 (by kernel_rfl)
        have h9 : u 9 = .bool true := hd.get 2 (by kernel_rfl)
        clear hd
        simp only [h10, h9] at hK
        go_simp
        exact hK.out (.bool true) rfl
      · show StepRQ _ _ _ _ _ _ _ _ _ -- 12
        unfold StepRQ
        intro q hq u w hj hd K hK
        have h9 : u 9 = .bool true := hd.get 2 (by kernel_rfl)
        have h11 : u 11 = .bool true := hd.get 4 (by kernel_rfl)
        clear hd
        simp only [h9, h11] at hK
        go_simp
        exact hK.out (.bool true) rfl
      · show StepRQ _ _ _ _ _ _ _ _ _ -- 13
        unfold StepRQ
        intro q hq u w hj hd K hK
        have h12 : u 12 = .bool true := hd.get 5 (by kernel_rfl)
        clear hd
        simp only [h12] at hK
        go_simp
        exact hK.out (.bool true) rfl
      · show StepRQ _ _ _ _ _ _ _ _ _ -- 14
        unfold StepRQ
        intro q hq u w hj hd K hK
        have h13 : u 13 = .bool true := hd.get 6 (by kernel_rfl)
        clear hd
        simp only [h13] at hK
        go_simp
        exact hK.out (.int .i64 p) rfl
      · show StepRQ _ _ _ _ _ _ _ _ _ -- 15
        unfold StepRQ
        intro q hq u w hj hd K hK
        have h14 : u 14 = .int .i64 p := hd.get 7 (by kernel_rfl)
        have h13 : u 13 = .bool true := hd.get 6 (by kernel_rfl)
        clear hd
        simp only [h14, h13] at hK
        go_simp
        exact hK.out (.bool false) rfl
      · show StepRQ _ _ _ _ _ _ _ _ _ -- 16
        unfold StepRQ
        intro q hq u w hj hd K hK
        have h13 : u 13 = .bool true := hd.get 6 (by kernel_rfl)
        have h15 : u 15 = .bool false := hd.get 8 (by kernel_rfl)
        clear hd
        simp only [h13, h15] at hK
        go_simp
        exact hK.out (.bool false) rfl
      · show StepRQ _ _ _ _ _ _ _ _ _ -- 17
        unfold StepRQ
        intro q hq u w hj hd K hK
        have h16 : u 16 = .bool false := hd.get 9 (by kernel_rfl)
        clear hd
        simp only [h16] at hK
        go_simp
        exact hK.out (.bool false) rfl
      · show StepRQ _ _ _ _ _ _ _ _ _ -- 18
        unfold StepRQ
        intro q hq u w hj hd K hK
        have h17 : u 17 = .bool false := hd.get 10 (by kernel_rfl)
        clear hd
        simp only [h17] at hK
        go_simp
        exact hK.out undef rfl
      · show StepRQ _ _ _ _ _ _ _ _ _ -- 19
        unfold StepRQ
        intro q hq u w hj hd K hK
        have h17 : u 17 = .bool false := hd.get 10 (by kernel_rfl)
        clear hd
        simp only [h17] at hK
        go_simp
        exact hK.out undef rfl
      · show StepRQ _ _ _ _ _ _ _ _ _ -- 20
        unfold StepRQ
        intro q hq u w hj hd K hK
        have h19 : u 19 = undef := hd.get 12 (by kernel_rfl)
        have h17 : u 17 = .bool false := hd.get 10 (by kernel_rfl)
        clear hd
        simp only [h19, h17] at hK
        go_simp
        exact hK.out undef rfl
      · show StepRQ _ _ _ _ _ _ _ _ _ -- 21
        unfold StepRQ
        intro q hq u w hj hd K hK
        have h20 : u 20 = undef := hd.get 13 (by kernel_rfl)
        have h17 : u 17 = .bool false := hd.get 10 (by kernel_rfl)
        clear hd
        simp only [h20, h17] at hK
        go_simp
        exact hK.out undef rfl
      · show StepRQ _ _ _ _ _ _ _ _ _ -- 22
        unfold StepRQ
        intro q hq u w hj hd K hK
        have h21 : u 21 = undef := hd.get 14 (by kernel_rfl)
        have h17 : u 17 = .bool false := hd.get 10 (by kernel_rfl)
        clear hd
        simp only [h21, h17] at hK
        go_simp
        exact hK.out undef rfl
      · show StepRQ _ _ _ _ _ _ _ _ _ -- 23
        unfold StepRQ
        intro q hq u w hj hd K hK
        have h22 : u 22 = undef := hd.get 15 (by kernel_rfl)
        have h17 : u 17 = .bool false := hd.get 10 (by kernel_rfl)
        clear hd
        simp only [h22, h17] at hK
        go_simp
        exact hK.out undef rfl
      · show StepRQ _ _ _ _ _ _ _ _ _ -- 24
        unfold StepRQ
        intro q hq u w hj hd K hK
        have h18 : u 18 = undef := hd.get 11 (by kernel_rfl)
        have h23 : u 23 = undef := hd.get 16 (by kernel_rfl)
        have h17 : u 17 = .bool false := hd.get 10 (by kernel_rfl)
        clear hd
        simp only [h18, h23, h17] at hK
        go_simp
        exact hK.out undef rfl
      · show StepRQ _ _ _ _ _ _ _ _ _ -- 25
        unfold StepRQ
        intro q hq u w hj hd K hK
        have h17 : u 17 = .bool false := hd.get 10 (by kernel_rfl)
        have h24 : u 24 = undef := hd.get 17 (by kernel_rfl)
        clear hd
        simp only [h17, h24] at hK
        go_simp
        exact hK.out (.bool false) rfl
      · show StepRQ _ _ _ _ _ _ _ _ _ -- 26
        unfold StepRQ
        intro q hq u w hj hd K hK
        have h25 : u 25 = .bool false := hd.get 18 (by kernel_rfl)
        clear hd
        simp only [h25] at hK
        go_simp
        exact hK.out (.bool false) rfl
      · show StepRQ _ _ _ _ _ _ _ _ _ -- 27
        unfold StepRQ
        intro q hq u w hj hd K hK
        have h26 : u 26 = .bool false := hd.get 19 (by kernel_rfl)
        clear hd
        simp only [h26] at hK
        go_simp
        exact hK.out undef rfl
      · show StepRQ _ _ _ _ _ _ _ _ _ -- 28
        unfold StepRQ
        intro q hq u w hj hd K hK
        have h27 : u 27 = undef := hd.get 20 (by kernel_rfl)
        have h26 : u 26 = .bool false := hd.get 19 (by kernel_rfl)
        clear hd
        simp only [h27, h26] at hK
        go_simp
        exact hK.out undef rfl
      · show StepRQ _ _ _ _ _ _ _ _ _ -- 29
        unfold StepRQ
        intro q hq u w hj hd K hK
        have h26 : u 26 = .bool false := hd.get 19 (by kernel_rfl)
        clear hd
        simp only [h26] at hK
        go_simp
        exact hK.out undef rfl
      · show StepRQ _ _ _ _ _ _ _ _ _ -- 30
        unfold StepRQ
        intro q hq u w hj hd K hK
        have h29 : u 29 = undef := hd.get 22 (by kernel_rfl)
        have h26 : u 26 = .bool false := hd.get 19 (by kernel_rfl)
        clear hd
        simp only [h29, h26] at hK
        go_simp
        exact hK.out undef rfl
      · show StepRQ _ _ _ _ _ _ _ _ _ -- 31
        unfold StepRQ
        intro q hq u w hj hd K hK
        have h30 : u 30 = undef := hd.get 23 (by kernel_rfl)
        have h26 : u 26 = .bool false := hd.get 19 (by kernel_rfl)
        clear hd
        simp only [h30, h26] at hK
        go_simp
        exact hK.out undef rfl
      · show StepRQ _ _ _ _ _ _ _ _ _ -- 32
        unfold StepRQ
        intro q hq u w hj hd K hK
        have h31 : u 31 = undef := hd.get 24 (by kernel_rfl)
        have h26 : u 26 = .bool false := hd.get 19 (by kernel_rfl)
        clear hd
        simp only [h31, h26] at hK
        go_simp
        exact hK.out undef rfl
      · show StepRQ _ _ _ _ _ _ _ _ _ -- 33
        unfold StepRQ
        intro q hq u w hj hd K hK
        have h32 : u 32 = undef := hd.get 25 (by kernel_rfl)
        have h26 : u 26 = .bool false := hd.get 19 (by kernel_rfl)
        clear hd
        simp only [h32, h26] at hK
        go_simp
        exact hK.out undef rfl
      · show StepRQ _ _ _ _ _ _ _ _ _ -- 34
        unfold StepRQ
        intro q hq u w hj hd K hK
        have h26 : u 26 = .bool false := hd.get 19 (by kernel_rfl)
        clear hd
        simp only [h26] at hK
        go_simp
        exact hK.out undef rfl
      · show StepRQ _ _ _ _ _ _ _ _ _ -- 35
        unfold StepRQ
        intro q hq u w hj hd K hK
        have h33 : u 33 = undef := hd.get 26 (by kernel_rfl)
        have h34 : u 34 = undef := hd.get 27 (by kernel_rfl)
        have h26 : u 26 = .bool false := hd.get 19 (by kernel_rfl)
        clear hd
        simp only [h33, h34, h26] at hK
        go_simp
        exact hK.out undef rfl
      · show StepRQ _ _ _ _ _ _ _ _ _ -- 36
        unfold StepRQ
        intro q hq u w hj hd K hK
        have h28 : u 28 = undef := hd.get 21 (by kernel_rfl)
        have h35 : u 35 = undef := hd.get 28 (by kernel_rfl)
        have h26 : u 26 = .bool false := hd.get 19 (by kernel_rfl)
        clear hd
        simp only [h28, h35, h26] at hK
        go_simp
        exact hK.out undef rfl
      · show StepRQ _ _ _ _ _ _ _ _ _ -- 37
        unfold StepRQ
        intro q hq u w hj hd K hK
        have h26 : u 26 = .bool false := hd.get 19 (by kernel_rfl)
        have h36 : u 36 = undef := hd.get 29 (by kernel_rfl)
        clear hd
        simp only [h26, h36] at hK
        go_simp
        exact hK.out (.bool false) rfl
    · intro u w hj hA K hK
      have e37 : u 37 = .bool false := hA.at 37 (by kernel_rfl)
      clear hA
      have HCJ : Hid (Chg (fun _ => False) w0 w) := hj
      go_simp
      refine hK.out _ _ ?_
      go_wp2
      go_ret
      exact ⟨by rw [show decide (Stands len p n) = false from decide_eq_false (fun h => by obtain ⟨h1, h2, h3, h4⟩ := HST.out h; omega)]; rfl, HCJ.out⟩
  by_cases c3 : p ≤ (len : Int)
  rotate_left
  · have q3 : decide (p ≤ (len : Int)) = false := by simp; omega
    go_enter Try.func90, Try.ntmps90
    go_wp2_with fail
    refine wp_region_phaseQ (mk := fun u => #[_, _, _, _, _, _, _, u 7, u 8, u 9, u 10, u 11, u 12, u 13, u 14, u 15, u 16, u 17, u 18, u 19, u 20, u 21, u 22, u 23, u 24, u 25, u 26, u 27, u 28, u 29, u 30, u 31, u 32, u 33, u 34, u 35, u 36, u 37]) (G := lookG [(7, .int .i64 n), (8, .bool true), (9, .bool true), (10, .int .i64 n), (11, .bool true), (12, .bool true), (13, .bool true), (14, .int .i64 p), (15, .bool true), (16, .bool true), (17, .bool true), (18, .int .i64 p), (19, .pointer (some ⟨r, 0, none⟩)), (20, .pointer (some ⟨r, 0, none⟩)), (21, .pointer (some ⟨r, 1, none⟩)), (22, .slice ad len cap), (23, .int .i64 (len : Int)), (24, .bool false), (25, .bool false), (26, .bool false), (27, undef), (28, undef), (29, undef), (30, undef), (31, undef), (32, undef), (33, undef), (34, undef), (35, undef), (36, undef), (37, .bool false)]) (J := fun _ _ w => Chg (fun _ => False) w0 w) [] (fun i =>  0) ([]) (fun _ => undef) rfl (by kernel_rfl) 31 _ rfl rfl (by kernel_rfl) (by kernel_rfl) (by kernel_rfl) (by decide) ?_ ?_ ?_ (by kernel_rfl) ?_ ?_
    · repeat (refine ⟨fun _ _ => rfl, ?_⟩)
      exact trivial
    · exact fun q u u2 w _ h => h
    · exact (Chg.refl _ _).drew
    · refine ⟨?_, ?_, ?_, ?_, ?_, ?_, ?_, ?_, ?_, ?_, ?_, ?_, ?_, ?_, ?_, ?_, ?_, ?_, ?_, ?_, ?_, ?_, ?_, ?_, ?_, ?_, ?_, ?_, ?_, ?_, ?_, trivial⟩
      · show StepRQ _ _ _ _ _ _ _ _ _ -- 7
        unfold StepRQ
        intro q hq u w hj hd K hK
        clear hd
        go_simp
        exact hK.out (.int .i64 n) rfl
      · show StepRQ _ _ _ _ _ _ _ _ _ -- 8
        unfold StepRQ
        intro q hq u w hj hd K hK
        have h7 : u 7 = .int .i64 n := hd.get 0 (by kernel_rfl)
        clear hd
        simp only [h7] at hK
        go_simp
        exact hK.out (.bool true) rfl
      · show StepRQ _ _ _ _ _ _ _ _ _ -- 9
        unfold StepRQ
        intro q hq u w hj hd K hK
        have h8 : u 8 = .bool true := hd.get 1 (by kernel_rfl)
        clear hd
        simp only [h8] at hK
        go_simp
        exact hK.out (.bool true) rfl
      · show StepRQ _ _ _ _ _ _ _ _ _ -- 10
        unfold StepRQ
        intro q hq u w hj hd K hK
        have h9 : u 9 = .bool true := hd.get 2 (by kernel_rfl)
        clear hd
        simp only [h9] at hK
        go_simp
        exact hK.out (.int .i64 n) rfl
      · show StepRQ _ _ _ _ _ _ _ _ _ -- 11
        unfold StepRQ
        intro q hq u w hj hd K hK
        have h10 : u 10 = .int .i64 n := hd.get 3 (by kernel_rfl)
        have h9 : u 9 = .bool true := hd.get 2 (by kernel_rfl)
        clear hd
        simp only [h10, h9] at hK
        go_simp
        exact hK.out (.bool true) rfl
      · show StepRQ _ _ _ _ _ _ _ _ _ -- 12
        unfold StepRQ
        intro q hq u w hj hd K hK
        have h9 : u 9 = .bool true := hd.get 2 (by kernel_rfl)
        have h11 : u 11 = .bool true := hd.get 4 (by kernel_rfl)
        clear hd
        simp only [h9, h11] at hK
        go_simp
        exact hK.out (.bool true) rfl
      · show StepRQ _ _ _ _ _ _ _ _ _ -- 13
        unfold StepRQ
        intro q hq u w hj hd K hK
        have h12 : u 12 = .bool true := hd.get 5 (by kernel_rfl)
        clear hd
        simp only [h12] at hK
        go_simp
        exact hK.out (.bool true) rfl
      · show StepRQ _ _ _ _ _ _ _ _ _ -- 14
        unfold StepRQ
        intro q hq u w hj hd K hK
        have h13 : u 13 = .bool true := hd.get 6 (by kernel_rfl)
        clear hd
        simp only [h13] at hK
        go_simp
        exact hK.out (.int .i64 p) rfl
      · show StepRQ _ _ _ _ _ _ _ _ _ -- 15
        unfold StepRQ
        intro q hq u w hj hd K hK
        have h14 : u 14 = .int .i64 p := hd.get 7 (by kernel_rfl)
        have h13 : u 13 = .bool true := hd.get 6 (by kernel_rfl)
        clear hd
        simp only [h14, h13] at hK
        go_simp
        exact hK.out (.bool true) rfl
      · show StepRQ _ _ _ _ _ _ _ _ _ -- 16
        unfold StepRQ
        intro q hq u w hj hd K hK
        have h13 : u 13 = .bool true := hd.get 6 (by kernel_rfl)
        have h15 : u 15 = .bool true := hd.get 8 (by kernel_rfl)
        clear hd
        simp only [h13, h15] at hK
        go_simp
        exact hK.out (.bool true) rfl
      · show StepRQ _ _ _ _ _ _ _ _ _ -- 17
        unfold StepRQ
        intro q hq u w hj hd K hK
        have h16 : u 16 = .bool true := hd.get 9 (by kernel_rfl)
        clear hd
        simp only [h16] at hK
        go_simp
        exact hK.out (.bool true) rfl
      · show StepRQ _ _ _ _ _ _ _ _ _ -- 18
        unfold StepRQ
        intro q hq u w hj hd K hK
        have h17 : u 17 = .bool true := hd.get 10 (by kernel_rfl)
        clear hd
        simp only [h17] at hK
        go_simp
        exact hK.out (.int .i64 p) rfl
      · show StepRQ _ _ _ _ _ _ _ _ _ -- 19
        unfold StepRQ
        intro q hq u w hj hd K hK
        have h17 : u 17 = .bool true := hd.get 10 (by kernel_rfl)
        clear hd
        simp only [h17] at hK
        go_simp
        exact hK.out (.pointer (some ⟨r, 0, none⟩)) rfl
      · show StepRQ _ _ _ _ _ _ _ _ _ -- 20
        unfold StepRQ
        intro q hq u w hj hd K hK
        have h19 : u 19 = .pointer (some ⟨r, 0, none⟩) := hd.get 12 (by kernel_rfl)
        have h17 : u 17 = .bool true := hd.get 10 (by kernel_rfl)
        clear hd
        simp only [h19, h17] at hK
        go_simp
        exact hK.out (.pointer (some ⟨r, 0, none⟩)) rfl
      · show StepRQ _ _ _ _ _ _ _ _ _ -- 21
        unfold StepRQ
        intro q hq u w hj hd K hK
        have h20 : u 20 = .pointer (some ⟨r, 0, none⟩) := hd.get 13 (by kernel_rfl)
        have h17 : u 17 = .bool true := hd.get 10 (by kernel_rfl)
        clear hd
        simp only [h20, h17] at hK
        go_simp
        exact hK.out (.pointer (some ⟨r, 1, none⟩)) rfl
      · show StepRQ _ _ _ _ _ _ _ _ _ -- 22
        unfold StepRQ
        intro q hq u w hj hd K hK
        have h21 : u 21 = .pointer (some ⟨r, 1, none⟩) := hd.get 14 (by kernel_rfl)
        have h17 : u 17 = .bool true := hd.get 10 (by kernel_rfl)
        clear hd
        simp only [h21, h17] at hK
        have hcell := cell_chg k1 hj
        go_simp
        exact hK.out _ rfl
      · show StepRQ _ _ _ _ _ _ _ _ _ -- 23
        unfold StepRQ
        intro q hq u w hj hd K hK
        have h22 : u 22 = .slice ad len cap := hd.get 15 (by kernel_rfl)
        have h17 : u 17 = .bool true := hd.get 10 (by kernel_rfl)
        clear hd
        simp only [h22, h17] at hK
        go_simp
        exact hK.out (.int .i64 (len : Int)) rfl
      · show StepRQ _ _ _ _ _ _ _ _ _ -- 24
        unfold StepRQ
        intro q hq u w hj hd K hK
        have h18 : u 18 = .int .i64 p := hd.get 11 (by kernel_rfl)
        have h23 : u 23 = .int .i64 (len : Int) := hd.get 16 (by kernel_rfl)
        have h17 : u 17 = .bool true := hd.get 10 (by kernel_rfl)
        clear hd
        simp only [h18, h23, h17] at hK
        go_simp
        exact hK.out (.bool false) rfl
      · show StepRQ _ _ _ _ _ _ _ _ _ -- 25
        unfold StepRQ
        intro q hq u w hj hd K hK
        have h17 : u 17 = .bool true := hd.get 10 (by kernel_rfl)
        have h24 : u 24 = .bool false := hd.get 17 (by kernel_rfl)
        clear hd
        simp only [h17, h24] at hK
        go_simp
        exact hK.out (.bool false) rfl
      · show StepRQ _ _ _ _ _ _ _ _ _ -- 26
        unfold StepRQ
        intro q hq u w hj hd K hK
        have h25 : u 25 = .bool false := hd.get 18 (by kernel_rfl)
        clear hd
        simp only [h25] at hK
        go_simp
        exact hK.out (.bool false) rfl
      · show StepRQ _ _ _ _ _ _ _ _ _ -- 27
        unfold StepRQ
        intro q hq u w hj hd K hK
        have h26 : u 26 = .bool false := hd.get 19 (by kernel_rfl)
        clear hd
        simp only [h26] at hK
        go_simp
        exact hK.out undef rfl
      · show StepRQ _ _ _ _ _ _ _ _ _ -- 28
        unfold StepRQ
        intro q hq u w hj hd K hK
        have h27 : u 27 = undef := hd.get 20 (by kernel_rfl)
        have h26 : u 26 = .bool false := hd.get 19 (by kernel_rfl)
        clear hd
        simp only [h27, h26] at hK
        go_simp
        exact hK.out undef rfl
      · show StepRQ _ _ _ _ _ _ _ _ _ -- 29
        unfold StepRQ
        intro q hq u w hj hd K hK
        have h26 : u 26 = .bool false := hd.get 19 (by kernel_rfl)
        clear hd
        simp only [h26] at hK
        go_simp
        exact hK.out undef rfl
      · show StepRQ _ _ _ _ _ _ _ _ _ -- 30
        unfold StepRQ
        intro q hq u w hj hd K hK
        have h29 : u 29 = undef := hd.get 22 (by kernel_rfl)
        have h26 : u 26 = .bool false := hd.get 19 (by kernel_rfl)
        clear hd
        simp only [h29, h26] at hK
        go_simp
        exact hK.out undef rfl
      · show StepRQ _ _ _ _ _ _ _ _ _ -- 31
        unfold StepRQ
        intro q hq u w hj hd K hK
        have h30 : u 30 = undef := hd.get 23 (by kernel_rfl)
        have h26 : u 26 = .bool false := hd.get 19 (by kernel_rfl)
        clear hd
        simp only [h30, h26] at hK
        go_simp
        exact hK.out undef rfl
      · show StepRQ _ _ _ _ _ _ _ _ _ -- 32
        unfold StepRQ
        intro q hq u w hj hd K hK
        have h31 : u 31 = undef := hd.get 24 (by kernel_rfl)
        have h26 : u 26 = .bool false := hd.get 19 (by kernel_rfl)
        clear hd
        simp only [h31, h26] at hK
        go_simp
        exact hK.out undef rfl
      · show StepRQ _ _ _ _ _ _ _ _ _ -- 33
        unfold StepRQ
        intro q hq u w hj hd K hK
        have h32 : u 32 = undef := hd.get 25 (by kernel_rfl)
        have h26 : u 26 = .bool false := hd.get 19 (by kernel_rfl)
        clear hd
        simp only [h32, h26] at hK
        go_simp
        exact hK.out undef rfl
      · show StepRQ _ _ _ _ _ _ _ _ _ -- 34
        unfold StepRQ
        intro q hq u w hj hd K hK
        have h26 : u 26 = .bool false := hd.get 19 (by kernel_rfl)
        clear hd
        simp only [h26] at hK
        go_simp
        exact hK.out undef rfl
      · show StepRQ _ _ _ _ _ _ _ _ _ -- 35
        unfold StepRQ
        intro q hq u w hj hd K hK
        have h33 : u 33 = undef := hd.get 26 (by kernel_rfl)
        have h34 : u 34 = undef := hd.get 27 (by kernel_rfl)
        have h26 : u 26 = .bool false := hd.get 19 (by kernel_rfl)
        clear hd
        simp only [h33, h34, h26] at hK
        go_simp
        exact hK.out undef rfl
      · show StepRQ _ _ _ _ _ _ _ _ _ -- 36
        unfold StepRQ
        intro q hq u w hj hd K hK
        have h28 : u 28 = undef := hd.get 21 (by kernel_rfl)
        have h35 : u 35 = undef := hd.get 28 (by kernel_rfl)
        have h26 : u 26 = .bool false := hd.get 19 (by kernel_rfl)
        clear hd
        simp only [h28, h35, h26] at hK
        go_simp
        exact hK.out undef rfl
      · show StepRQ _ _ _ _ _ _ _ _ _ -- 37
        unfold StepRQ
        intro q hq u w hj hd K hK
        have h26 : u 26 = .bool false := hd.get 19 (by kernel_rfl)
        have h36 : u 36 = undef := hd.get 29 (by kernel_rfl)
        clear hd
        simp only [h26, h36] at hK
        go_simp
        exact hK.out (.bool false) rfl
    · intro u w hj hA K hK
      have e37 : u 37 = .bool false := hA.at 37 (by kernel_rfl)
      clear hA
      have HCJ : Hid (Chg (fun _ => False) w0 w) := hj
      go_simp
      refine hK.out _ _ ?_
      go_wp2
      go_ret
      exact ⟨by rw [show decide (Stands len p n) = false from decide_eq_false (fun h => by obtain ⟨h1, h2, h3, h4⟩ := HST.out h; omega)]; rfl, HCJ.out⟩
  obtain ⟨N, rfl⟩ : ∃ N : Nat, (N : Int) = n := ⟨n.toNat, by omega⟩
  obtain ⟨Y, hY⟩ : ∃ Y : Nat, Y = 2 ^ N := ⟨_, rfl⟩
  have HTWO : Hid (∀ w, Calls Try.prog 91 #[.int .i64 (N : Int)] w fun e w' => e = .returned (.int .i64 (Y : Int)) ∧ w = w') := two_any N Y (by omega) hY
  obtain ⟨t, ht⟩ : ∃ t, t = decide ((Y : Int) ≤ (len : Int) - p) := ⟨_, rfl⟩
  have HT : Hid (decide ((Y : Int) ≤ (len : Int) - p) = t) := ht.symm
  have e2 : (Y : Int) = (2 : Int) ^ N := by rw [hY]; simp
  have HR : Hid (decide (Stands len p (N : Int)) = t) := by
    show _ = _
    rw [ht]
    refine decide_eq_decide.2 ⟨fun ⟨h1, h2, h3, h4⟩ => ?_, fun h4 => ⟨c0, c1, c2, ?_⟩⟩
    · simp only [Int.toNat_natCast] at h4
      omega
    · simp only [Int.toNat_natCast]
      omega
  clear ht HST e2 hY
  go_enter Try.func90, Try.ntmps90
  go_wp2_with fail
  refine wp_region_phaseQ (mk := fun u => #[_, _, _, _, _, _, _, u 7, u 8, u 9, u 10, u 11, u 12, u 13, u 14, u 15, u 16, u 17, u 18, u 19, u 20, u 21, u 22, u 23, u 24, u 25, u 26, u 27, u 28, u 29, u 30, u 31, u 32, u 33, u 34, u 35, u 36, u 37]) (G := lookG [(7, .int .i64 (N : Int)), (8, .bool true), (9, .bool true), (10, .int .i64 (N : Int)), (11, .bool true), (12, .bool true), (13, .bool true), (14, .int .i64 p), (15, .bool true), (16, .bool true), (17, .bool true), (18, .int .i64 p), (19, .pointer (some ⟨r, 0, none⟩)), (20, .pointer (some ⟨r, 0, none⟩)), (21, .pointer (some ⟨r, 1, none⟩)), (22, .slice ad len cap), (23, .int .i64 (len : Int)), (24, .bool true), (25, .bool true), (26, .bool true), (27, .int .i64 (N : Int)), (28, .int .i64 (Y : Int)), (29, .pointer (some ⟨r, 0, none⟩)), (30, .pointer (some ⟨r, 0, none⟩)), (31, .pointer (some ⟨r, 1, none⟩)), (32, .slice ad len cap), (33, .int .i64 (len : Int)), (34, .int .i64 p), (35, .int .i64 ((len : Int) - p)), (36, .bool t), (37, .bool t)]) (J := fun _ _ w => Chg (fun _ => False) w0 w) [] (fun i =>  0) ([]) (fun _ => undef) rfl (by kernel_rfl) 31 _ rfl rfl (by kernel_rfl) (by kernel_rfl) (by kernel_rfl) (by decide) ?_ ?_ ?_ (by kernel_rfl) ?_ ?_
  · repeat (refine ⟨fun _ _ => rfl, ?_⟩)
    exact trivial
  · exact fun q u u2 w _ h => h
  · exact (Chg.refl _ _).drew
  · refine ⟨?_, ?_, ?_, ?_, ?_, ?_, ?_, ?_, ?_, ?_, ?_, ?_, ?_, ?_, ?_, ?_, ?_, ?_, ?_, ?_, ?_, ?_, ?_, ?_, ?_, ?_, ?_, ?_, ?_, ?_, ?_, trivial⟩
    · show StepRQ _ _ _ _ _ _ _ _ _ -- 7
      unfold StepRQ
      intro q hq u w hj hd K hK
      clear hd
      go_simp
      exact hK.out (.int .i64 (N : Int)) rfl
    · show StepRQ _ _ _ _ _ _ _ _ _ -- 8
      unfold StepRQ
      intro q hq u w hj hd K hK
      have h7 : u 7 = .int .i64 (N : Int) := hd.get 0 (by kernel_rfl)
      clear hd
      simp only [h7] at hK
      go_simp
      exact hK.out (.bool true) rfl
    · show StepRQ _ _ _ _ _ _ _ _ _ -- 9
      unfold StepRQ
      intro q hq u w hj hd K hK
      have h8 : u 8 = .bool true := hd.get 1 (by kernel_rfl)
      clear hd
      simp only [h8] at hK
      go_simp
      exact hK.out (.bool true) rfl
    · show StepRQ _ _ _ _ _ _ _ _ _ -- 10
      unfold StepRQ
      intro q hq u w hj hd K hK
      have h9 : u 9 = .bool true := hd.get 2 (by kernel_rfl)
      clear hd
      simp only [h9] at hK
      go_simp
      exact hK.out (.int .i64 (N : Int)) rfl
    · show StepRQ _ _ _ _ _ _ _ _ _ -- 11
      unfold StepRQ
      intro q hq u w hj hd K hK
      have h10 : u 10 = .int .i64 (N : Int) := hd.get 3 (by kernel_rfl)
      have h9 : u 9 = .bool true := hd.get 2 (by kernel_rfl)
      clear hd
      simp only [h10, h9] at hK
      go_simp
      exact hK.out (.bool true) rfl
    · show StepRQ _ _ _ _ _ _ _ _ _ -- 12
      unfold StepRQ
      intro q hq u w hj hd K hK
      have h9 : u 9 = .bool true := hd.get 2 (by kernel_rfl)
      have h11 : u 11 = .bool true := hd.get 4 (by kernel_rfl)
      clear hd
      simp only [h9, h11] at hK
      go_simp
      exact hK.out (.bool true) rfl
    · show StepRQ _ _ _ _ _ _ _ _ _ -- 13
      unfold StepRQ
      intro q hq u w hj hd K hK
      have h12 : u 12 = .bool true := hd.get 5 (by kernel_rfl)
      clear hd
      simp only [h12] at hK
      go_simp
      exact hK.out (.bool true) rfl
    · show StepRQ _ _ _ _ _ _ _ _ _ -- 14
      unfold StepRQ
      intro q hq u w hj hd K hK
      have h13 : u 13 = .bool true := hd.get 6 (by kernel_rfl)
      clear hd
      simp only [h13] at hK
      go_simp
      exact hK.out (.int .i64 p) rfl
    · show StepRQ _ _ _ _ _ _ _ _ _ -- 15
      unfold StepRQ
      intro q hq u w hj hd K hK
      have h14 : u 14 = .int .i64 p := hd.get 7 (by kernel_rfl)
      have h13 : u 13 = .bool true := hd.get 6 (by kernel_rfl)
      clear hd
      simp only [h14, h13] at hK
      go_simp
      exact hK.out (.bool true) rfl
    · show StepRQ _ _ _ _ _ _ _ _ _ -- 16
      unfold StepRQ
      intro q hq u w hj hd K hK
      have h13 : u 13 = .bool true := hd.get 6 (by kernel_rfl)
      have h15 : u 15 = .bool true := hd.get 8 (by kernel_rfl)
      clear hd
      simp only [h13, h15] at hK
      go_simp
      exact hK.out (.bool true) rfl
    · show StepRQ _ _ _ _ _ _ _ _ _ -- 17
      unfold StepRQ
      intro q hq u w hj hd K hK
      have h16 : u 16 = .bool true := hd.get 9 (by kernel_rfl)
      clear hd
      simp only [h16] at hK
      go_simp
      exact hK.out (.bool true) rfl
    · show StepRQ _ _ _ _ _ _ _ _ _ -- 18
      unfold StepRQ
      intro q hq u w hj hd K hK
      have h17 : u 17 = .bool true := hd.get 10 (by kernel_rfl)
      clear hd
      simp only [h17] at hK
      go_simp
      exact hK.out (.int .i64 p) rfl
    · show StepRQ _ _ _ _ _ _ _ _ _ -- 19
      unfold StepRQ
      intro q hq u w hj hd K hK
      have h17 : u 17 = .bool true := hd.get 10 (by kernel_rfl)
      clear hd
      simp only [h17] at hK
      go_simp
      exact hK.out (.pointer (some ⟨r, 0, none⟩)) rfl
    · show StepRQ _ _ _ _ _ _ _ _ _ -- 20
      unfold StepRQ
      intro q hq u w hj hd K hK
      have h19 : u 19 = .pointer (some ⟨r, 0, none⟩) := hd.get 12 (by kernel_rfl)
      have h17 : u 17 = .bool true := hd.get 10 (by kernel_rfl)
      clear hd
      simp only [h19, h17] at hK
      go_simp
      exact hK.out (.pointer (some ⟨r, 0, none⟩)) rfl
    · show StepRQ _ _ _ _ _ _ _ _ _ -- 21
      unfold StepRQ
      intro q hq u w hj hd K hK
      have h20 : u 20 = .pointer (some ⟨r, 0, none⟩) := hd.get 13 (by kernel_rfl)
      have h17 : u 17 = .bool true := hd.get 10 (by kernel_rfl)
      clear hd
      simp only [h20, h17] at hK
      go_simp
      exact hK.out (.pointer (some ⟨r, 1, none⟩)) rfl
    · show StepRQ _ _ _ _ _ _ _ _ _ -- 22
      unfold StepRQ
      intro q hq u w hj hd K hK
      have h21 : u 21 = .pointer (some ⟨r, 1, none⟩) := hd.get 14 (by kernel_rfl)
      have h17 : u 17 = .bool true := hd.get 10 (by kernel_rfl)
      clear hd
      simp only [h21, h17] at hK
      have hcell := cell_chg k1 hj
      go_simp
      exact hK.out _ rfl
    · show StepRQ _ _ _ _ _ _ _ _ _ -- 23
      unfold StepRQ
      intro q hq u w hj hd K hK
      have h22 : u 22 = .slice ad len cap := hd.get 15 (by kernel_rfl)
      have h17 : u 17 = .bool true := hd.get 10 (by kernel_rfl)
      clear hd
      simp only [h22, h17] at hK
      go_simp
      exact hK.out (.int .i64 (len : Int)) rfl
    · show StepRQ _ _ _ _ _ _ _ _ _ -- 24
      unfold StepRQ
      intro q hq u w hj hd K hK
      have h18 : u 18 = .int .i64 p := hd.get 11 (by kernel_rfl)
      have h23 : u 23 = .int .i64 (len : Int) := hd.get 16 (by kernel_rfl)
      have h17 : u 17 = .bool true := hd.get 10 (by kernel_rfl)
      clear hd
      simp only [h18, h23, h17] at hK
      go_simp
      exact hK.out (.bool true) rfl
    · show StepRQ _ _ _ _ _ _ _ _ _ -- 25
      unfold StepRQ
      intro q hq u w hj hd K hK
      have h17 : u 17 = .bool true := hd.get 10 (by kernel_rfl)
      have h24 : u 24 = .bool true := hd.get 17 (by kernel_rfl)
      clear hd
      simp only [h17, h24] at hK
      go_simp
      exact hK.out (.bool true) rfl
    · show StepRQ _ _ _ _ _ _ _ _ _ -- 26
      unfold StepRQ
      intro q hq u w hj hd K hK
      have h25 : u 25 = .bool true := hd.get 18 (by kernel_rfl)
      clear hd
      simp only [h25] at hK
      go_simp
      exact hK.out (.bool true) rfl
    · show StepRQ _ _ _ _ _ _ _ _ _ -- 27
      unfold StepRQ
      intro q hq u w hj hd K hK
      have h26 : u 26 = .bool true := hd.get 19 (by kernel_rfl)
      clear hd
      simp only [h26] at hK
      go_simp
      exact hK.out (.int .i64 (N : Int)) rfl
    · show StepRQ _ _ _ _ _ _ _ _ _ -- 28
      unfold StepRQ
      intro q hq u w hj hd K hK
      have h27 : u 27 = .int .i64 (N : Int) := hd.get 20 (by kernel_rfl)
      have h26 : u 26 = .bool true := hd.get 19 (by kernel_rfl)
      clear hd
      simp only [h27, h26] at hK
      go_simp
      go_at_call 91
      refine (HTWO.out w).mono ?_
      rintro x w2 ⟨rfl, rfl⟩
      exact hK.out _ rfl
    · show StepRQ _ _ _ _ _ _ _ _ _ -- 29
      unfold StepRQ
      intro q hq u w hj hd K hK
      have h26 : u 26 = .bool true := hd.get 19 (by kernel_rfl)
      clear hd
      simp only [h26] at hK
      go_simp
      exact hK.out (.pointer (some ⟨r, 0, none⟩)) rfl
    · show StepRQ _ _ _ _ _ _ _ _ _ -- 30
      unfold StepRQ
      intro q hq u w hj hd K hK
      have h29 : u 29 = .pointer (some ⟨r, 0, none⟩) := hd.get 22 (by kernel_rfl)
      have h26 : u 26 = .bool true := hd.get 19 (by kernel_rfl)
      clear hd
      simp only [h29, h26] at hK
      go_simp
      exact hK.out (.pointer (some ⟨r, 0, none⟩)) rfl
    · show StepRQ _ _ _ _ _ _ _ _ _ -- 31
      unfold StepRQ
      intro q hq u w hj hd K hK
      have h30 : u 30 = .pointer (some ⟨r, 0, none⟩) := hd.get 23 (by kernel_rfl)
      have h26 : u 26 = .bool true := hd.get 19 (by kernel_rfl)
      clear hd
      simp only [h30, h26] at hK
      go_simp
      exact hK.out (.pointer (some ⟨r, 1, none⟩)) rfl
    · show StepRQ _ _ _ _ _ _ _ _ _ -- 32
      unfold StepRQ
      intro q hq u w hj hd K hK
      have h31 : u 31 = .pointer (some ⟨r, 1, none⟩) := hd.get 24 (by kernel_rfl)
      have h26 : u 26 = .bool true := hd.get 19 (by kernel_rfl)
      clear hd
      simp only [h31, h26] at hK
      have hcell := cell_chg k1 hj
      go_simp
      exact hK.out _ rfl
    · show StepRQ _ _ _ _ _ _ _ _ _ -- 33
      unfold StepRQ
      intro q hq u w hj hd K hK
      have h32 : u 32 = .slice ad len cap := hd.get 25 (by kernel_rfl)
      have h26 : u 26 = .bool true := hd.get 19 (by kernel_rfl)
      clear hd
      simp only [h32, h26] at hK
      go_simp
      exact hK.out (.int .i64 (len : Int)) rfl
    · show StepRQ _ _ _ _ _ _ _ _ _ -- 34
      unfold StepRQ
      intro q hq u w hj hd K hK
      have h26 : u 26 = .bool true := hd.get 19 (by kernel_rfl)
      clear hd
      simp only [h26] at hK
      go_simp
      exact hK.out (.int .i64 p) rfl
    · show StepRQ _ _ _ _ _ _ _ _ _ -- 35
      unfold StepRQ
      intro q hq u w hj hd K hK
      have h33 : u 33 = .int .i64 (len : Int) := hd.get 26 (by kernel_rfl)
      have h34 : u 34 = .int .i64 p := hd.get 27 (by kernel_rfl)
      have h26 : u 26 = .bool true := hd.get 19 (by kernel_rfl)
      clear hd
      simp only [h33, h34, h26] at hK
      go_simp
      first | exact hK.out (.int .i64 ((len : Int) - p)) rfl | (rw [show IntKind.i64.wrap ((len : Int) - p) = (len : Int) - p from wr64 (by omega) (by omega)]; exact hK.out (.int .i64 ((len : Int) - p)) rfl)
    · show StepRQ _ _ _ _ _ _ _ _ _ -- 36
      unfold StepRQ
      intro q hq u w hj hd K hK
      have h28 : u 28 = .int .i64 (Y : Int) := hd.get 21 (by kernel_rfl)
      have h35 : u 35 = .int .i64 ((len : Int) - p) := hd.get 28 (by kernel_rfl)
      have h26 : u 26 = .bool true := hd.get 19 (by kernel_rfl)
      clear hd
      simp only [h28, h35, h26] at hK
      go_simp
      first | exact hK.out (.bool t) rfl | (rw [HT.out]; exact hK.out (.bool t) rfl)
    · show StepRQ _ _ _ _ _ _ _ _ _ -- 37
      unfold StepRQ
      intro q hq u w hj hd K hK
      have h26 : u 26 = .bool true := hd.get 19 (by kernel_rfl)
      have h36 : u 36 = .bool t := hd.get 29 (by kernel_rfl)
      clear hd
      simp only [h26, h36] at hK
      go_simp
      exact hK.out (.bool t) rfl
  · intro u w hj hA K hK
    have e37 : u 37 = .bool t := hA.at 37 (by kernel_rfl)
    clear hA
    have HCJ : Hid (Chg (fun _ => False) w0 w) := hj
    go_simp
    refine hK.out _ _ ?_
    go_wp2
    go_ret
    exact ⟨by rw [HR.out]; rfl, HCJ.out⟩
end Go.Proofs.Ytibgjpifmpljkaa
