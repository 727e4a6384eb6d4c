/- The document's own turns and choices: the contracts of power, turned, three, choose, most; of no statement by themselves. -/
import Derived.Test.YtnedllhlmddmoabDoorFacts
import Derived.Test.YtnedllhlmddmoabDoorSpread
namespace Go.Proofs.YtnedllhlmddmoabDoor
open Go.RowKit
set_option linter.unusedVariables false

theorem turned_eq (x n : Nat) (hx : x < 4294967296) (hn : n ≤ 32) : (x / 2 ^ n + x % 2 ^ n * 2 ^ (32 - n)) = Sha.rotr x n := by
  have hp : 2 ^ n * 2 ^ (32 - n) = 4294967296 := by rw [← Nat.pow_add, show n + (32 - n) = 32 by omega]
  have h1 : x * 2 ^ (32 - n) % 4294967296 = x % 2 ^ n * 2 ^ (32 - n) := by
    rw [← hp, Nat.mul_mod_mul_right]
  have h2 : x / 2 ^ n < 2 ^ (32 - n) := by
    rw [Nat.div_lt_iff_lt_mul (Nat.two_pow_pos n), Nat.mul_comm, hp]
    exact hx
  unfold Sha.rotr
  rw [h1, Nat.or_comm, Nat.mul_comm (x % 2 ^ n), ← Nat.two_pow_add_eq_or_of_lt h2]
  omega

theorem choose_eq (x y z : Nat) (hx : x < 4294967296) : (x &&& y) ||| (Sha.not x &&& z) = Sha.ch x y z := by
  unfold Sha.ch Sha.not
  apply Nat.eq_of_testBit_eq
  intro i
  simp only [Nat.testBit_or, Nat.testBit_and, Nat.testBit_xor]
  by_cases hi : i < 32
  · have hm : Nat.testBit 4294967295 i = true := by
      have := Nat.testBit_two_pow_sub_one 32 i
      simpa [hi] using this
    rw [hm]
    cases Nat.testBit x i <;> cases Nat.testBit y i <;> cases Nat.testBit z i <;> rfl
  · have hxi : Nat.testBit x i = false := Nat.testBit_lt_two_pow (Nat.lt_of_lt_of_le hx (show 2 ^ 32 ≤ 2 ^ i from Nat.pow_le_pow_right (by omega) (by omega)))
    rw [hxi]
    cases Nat.testBit y i <;> cases Nat.testBit z i <;> simp

theorem most_eq (x y z : Nat) : (x &&& y) ||| (x &&& z) ||| (y &&& z) = Sha.maj x y z := by
  unfold Sha.maj
  apply Nat.eq_of_testBit_eq
  intro i
  simp only [Nat.testBit_or, Nat.testBit_and, Nat.testBit_xor]
  cases Nat.testBit x i <;> cases Nat.testBit y i <;> cases Nat.testBit z i <;> rfl

/-- Two to the n. -/
def p2 (n : Nat) : Nat := 2 ^ n
theorem p2_pos (n : Nat) : 0 < p2 n := Nat.two_pow_pos n
theorem p2_le {n : Nat} (h : n ≤ 31) : p2 n ≤ 2147483648 := show 2 ^ n ≤ 2 ^ 31 from Nat.pow_le_pow_right (by omega) h
theorem p2_succ (n : Nat) : p2 (n + 1) = 2 * p2 n := by unfold p2; rw [Nat.pow_succ]; omega
theorem p2_mul {n : Nat} (h : n ≤ 32) : p2 n * p2 (32 - n) = 4294967296 := by unfold p2; rw [← Nat.pow_add, show n + (32 - n) = 32 by omega]

theorem power_any (n : Nat) (w : World) (hn : n ≤ 31) : Calls Tryd.prog 24 #[.int .i64 n] w fun e w' => e = .returned (.int .u32 (p2 n : Nat)) ∧ w = w' := by
  go_enter Tryd.func24, Tryd.ntmps24
  go_wp2
  go_loop [3, 4] (fun z i => ∃ k : Nat, k ≤ n ∧ i = .int .i64 k ∧ z = .int .u32 (p2 k : Nat)) (fun _ i => n - (intOf i).toNat)
  case atStart => exact ⟨0, by omega, rfl, rfl⟩
  case round =>
    obtain ⟨k, hk, rfl, rfl⟩ := hrel
    by_cases hlt : k < n
    · have HP : Hid (p2 (k + 1) = 2 * p2 k) := p2_succ k
      have hb : p2 k < 2147483648 := by have := p2_le (n := k + 1) (by omega); have h2 := p2_succ k; have h3 := p2_pos k; omega
      generalize p2 k = p at *
      go_wp2
      go_round
      case rel => exact ⟨k + 1, by omega, by go_num, by rw [HP.out]; rfl⟩
      case measure => simp [intOf]; omega
    · obtain rfl : k = n := by omega
      generalize hp : p2 k = p at *
      have HP : Hid (p2 k = p) := hp
      clear hp
      go_wp2
      go_ret
      exact ⟨by rw [HP.out]; rfl, rfl⟩

set_option maxHeartbeats 4000000 in
theorem turned_any (x n : Nat) (w : World) (hx : x < 4294967296) (hn : 0 < n) (hn2 : n < 32) :
    Calls Tryd.prog 37 #[.int .u32 x, .int .i64 n] w fun e w' => e = .returned (.int .u32 (Sha.rotr x n : Nat)) ∧ Chg (fun _ => False) w w' := by
  have hp1 := p2_pos n
  have hp2 := p2_pos (32 - n)
  have hb1 := p2_le (n := n) (by omega)
  have hb2 := p2_le (n := 32 - n) (by omega)
  have hE : x / p2 n + x % p2 n * p2 (32 - n) = Sha.rotr x n := turned_eq x n hx (by omega)
  have hlt := Sha.rotr_lt n hx
  have hsub : (32 : Int) - (n : Int) = ((32 - n : Nat) : Int) := by omega
  have hq1 := fun w => power_any n w (by omega)
  have hq2 := fun w => power_any (32 - n) w (by omega)
  have hle : x % p2 n * p2 (32 - n) < 4294967296 := by
    rw [← p2_mul (n := n) (by omega)]
    exact (Nat.mul_lt_mul_right hp2).2 (Nat.mod_lt _ hp1)
  have h1 : ((x : Int) / (p2 n : Nat)) = ((x / p2 n : Nat) : Int) := by simp
  have h2 : ((x : Int) % (p2 n : Nat)) = ((x % p2 n : Nat) : Int) := by simp
  have h3 : ((x % p2 n : Nat) : Int) * ((p2 (32 - n) : Nat) : Int) = ((x % p2 n * p2 (32 - n) : Nat) : Int) := by simp
  have h4 : ((x / p2 n : Nat) : Int) + ((x % p2 n * p2 (32 - n) : Nat) : Int) = ((Sha.rotr x n : Nat) : Int) := by rw [← hE]; simp
  have l1 : x / p2 n < 4294967296 := Nat.lt_of_le_of_lt (Nat.div_le_self _ _) hx
  have l2 : x % p2 n < 4294967296 := Nat.lt_of_le_of_lt (Nat.mod_le _ _) hx
  clear hE
  generalize x / p2 n = d at *
  generalize x % p2 n * p2 (32 - n) = f at *
  generalize x % p2 n = e at *
  generalize 32 - n = n' at *
  generalize p2 n = p at *
  generalize p2 n' = q at *
  generalize hrr : Sha.rotr x n = r at *
  have HR : Hid (Sha.rotr x n = r) := hrr
  clear hrr
  have hpne : ¬ p = 0 := by omega
  have htm : (x : Int).tmod (p : Int) = (e : Int) := by rw [Int.tmod_eq_emod_of_nonneg (by omega)]; exact h2
  have wn : IntKind.i64.wrap (n' : Int) = (n' : Int) := by
    simp [IntKind.wrap, IntKind.signed, IntKind.bits]
    omega
  have wd : IntKind.u32.wrap (d : Int) = (d : Int) := by rw [wrap32]; omega
  have we : IntKind.u32.wrap (e : Int) = (e : Int) := by rw [wrap32]; omega
  have wf : IntKind.u32.wrap (f : Int) = (f : Int) := by rw [wrap32]; omega
  have wr : IntKind.u32.wrap (r : Int) = (r : Int) := by rw [wrap32]; omega
  go_enter Tryd.func37, Tryd.ntmps37
  go_wp2_with fail
  refine wp_region_free (mk := fun u => #[_, _, _, _, u 4, u 5, u 6, u 7, u 8, u 9, u 10, u 11, u 12, u 13, u 14, u 15, u 16, u 17]) (F := fun slot vv ww => (look [(5, .val (.int .u32 (x : Nat))), (6, .val (.int .i64 (n : Nat))), (7, .val (.int .u32 (p : Nat))), (8, .val (.int .u32 (d : Nat))), (9, .val (.int .u32 (x : Nat))), (10, .val (.int .i64 (n : Nat))), (11, .val (.int .u32 (p : Nat))), (12, .val (.int .u32 (e : Nat))), (13, .val (.int .i64 (n : Nat))), (14, .val (.int .i64 (n' : Nat))), (15, .val (.int .u32 (q : Nat))), (16, .val (.int .u32 (f : Nat))), (17, .val (.int .u32 (r : Nat))), (4, .val (.int .u32 (r : Nat)))] slot).holds vv ww) (fun t => if t = 4 then .int .u32 0 else undef) rfl (by kernel_rfl) (by kernel_rfl) ?_ (fun _ v w w' hc h => Fact.stays _ v w w' hc h) ?_ ?_
  · repeat (refine ⟨⟨_, rfl, fun _ _ => rfl⟩, ?_⟩)
    exact trivial
  · refine ⟨?_, ?_, ?_, ?_, ?_, ?_, ?_, ?_, ?_, ?_, ?_, ?_, ?_, ?_, trivial⟩
    · intro u w hc hd K hK -- 5
      clear hd
      go_simp
      exact hK.out (.int .u32 (x : Nat)) w (Chg.refl _ _) rfl
    · intro u w hc hd K hK -- 6
      clear hd
      go_simp
      exact hK.out (.int .i64 (n : Nat)) w (Chg.refl _ _) rfl
    · intro u w hc hd K hK -- 7
      have h6 : (Fact.val (.int .i64 (n : Nat))).holds (u 6) w := hd.get 1 (by kernel_rfl)
      simp only [Fact.holds] at h6
      clear hd
      simp only [h6] at hK
      go_simp
      go_at_call 24
      refine (hq1 w).mono ?_
      rintro e w1 ⟨rfl, rfl⟩
      exact hK.out _ _ (Chg.refl _ _) rfl
    · intro u w hc hd K hK -- 8
      have h5 : (Fact.val (.int .u32 (x : Nat))).holds (u 5) w := hd.get 0 (by kernel_rfl)
      simp only [Fact.holds] at h5
      have h7 : (Fact.val (.int .u32 (p : Nat))).holds (u 7) w := hd.get 2 (by kernel_rfl)
      simp only [Fact.holds] at h7
      clear hd
      simp only [h5, h7] at hK
      go_simp
      exact hK.out (.int .u32 (d : Nat)) w (Chg.refl _ _) rfl
    · intro u w hc hd K hK -- 9
      clear hd
      go_simp
      exact hK.out (.int .u32 (x : Nat)) w (Chg.refl _ _) rfl
    · intro u w hc hd K hK -- 10
      clear hd
      go_simp
      exact hK.out (.int .i64 (n : Nat)) w (Chg.refl _ _) rfl
    · intro u w hc hd K hK -- 11
      have h10 : (Fact.val (.int .i64 (n : Nat))).holds (u 10) w := hd.get 5 (by kernel_rfl)
      simp only [Fact.holds] at h10
      clear hd
      simp only [h10] at hK
      go_simp
      go_at_call 24
      refine (hq1 w).mono ?_
      rintro e w1 ⟨rfl, rfl⟩
      exact hK.out _ _ (Chg.refl _ _) rfl
    · intro u w hc hd K hK -- 12
      have h9 : (Fact.val (.int .u32 (x : Nat))).holds (u 9) w := hd.get 4 (by kernel_rfl)
      simp only [Fact.holds] at h9
      have h11 : (Fact.val (.int .u32 (p : Nat))).holds (u 11) w := hd.get 6 (by kernel_rfl)
      simp only [Fact.holds] at h11
      clear hd
      simp only [h9, h11] at hK
      go_simp
      exact hK.out (.int .u32 (e : Nat)) w (Chg.refl _ _) rfl
    · intro u w hc hd K hK -- 13
      clear hd
      go_simp
      exact hK.out (.int .i64 (n : Nat)) w (Chg.refl _ _) rfl
    · intro u w hc hd K hK -- 14
      have h13 : (Fact.val (.int .i64 (n : Nat))).holds (u 13) w := hd.get 8 (by kernel_rfl)
      simp only [Fact.holds] at h13
      clear hd
      simp only [h13] at hK
      go_simp
      exact hK.out (.int .i64 (n' : Nat)) w (Chg.refl _ _) rfl
    · intro u w hc hd K hK -- 15
      have h14 : (Fact.val (.int .i64 (n' : Nat))).holds (u 14) w := hd.get 9 (by kernel_rfl)
      simp only [Fact.holds] at h14
      clear hd
      simp only [h14] at hK
      go_simp
      go_at_call 24
      refine (hq2 w).mono ?_
      rintro e w1 ⟨rfl, rfl⟩
      exact hK.out _ _ (Chg.refl _ _) rfl
    · intro u w hc hd K hK -- 16
      have h12 : (Fact.val (.int .u32 (e : Nat))).holds (u 12) w := hd.get 7 (by kernel_rfl)
      simp only [Fact.holds] at h12
      have h15 : (Fact.val (.int .u32 (q : Nat))).holds (u 15) w := hd.get 10 (by kernel_rfl)
      simp only [Fact.holds] at h15
      clear hd
      simp only [h12, h15] at hK
      go_simp
      exact hK.out (.int .u32 (f : Nat)) w (Chg.refl _ _) rfl
    · intro u w hc hd K hK -- 17
      have h8 : (Fact.val (.int .u32 (d : Nat))).holds (u 8) w := hd.get 3 (by kernel_rfl)
      simp only [Fact.holds] at h8
      have h16 : (Fact.val (.int .u32 (f : Nat))).holds (u 16) w := hd.get 11 (by kernel_rfl)
      simp only [Fact.holds] at h16
      clear hd
      simp only [h8, h16] at hK
      go_simp
      exact hK.out (.int .u32 (r : Nat)) w (Chg.refl _ _) rfl
    · intro u w hc hd K hK -- 4
      have h17 : (Fact.val (.int .u32 (r : Nat))).holds (u 17) w := hd.get 12 (by kernel_rfl)
      simp only [Fact.holds] at h17
      clear hd
      simp only [h17] at hK
      go_simp
      exact hK.out (.int .u32 (r : Nat)) w (Chg.refl _ _) rfl
  · intro u w hc hA
    have a4 : u 4 = _ := hA.at 4 (by kernel_rfl)
    clear hA
    go_wp2
    go_ret
    exact ⟨by rw [← a4]; rfl, hc⟩

set_option maxHeartbeats 4000000 in
theorem three_any (x a b c : Nat) (w : World) (hx : x < 4294967296) (ha : 0 < a) (ha2 : a < 32) (hb : 0 < b) (hb2 : b < 32) (hc : 0 < c) (hc2 : c < 32) :
    Calls Tryd.prog 32 #[.int .u32 x, .int .i64 a, .int .i64 b, .int .i64 c] w fun e w' => e = .returned (.int .u32 (Sha.rotr x a ^^^ Sha.rotr x b ^^^ Sha.rotr x c : Nat)) ∧ Chg (fun _ => False) w w' := by
  have l1 := Sha.rotr_lt a hx
  have l2 := Sha.rotr_lt b hx
  have l3 := Sha.rotr_lt c hx
  have e1 := xor32 _ _ l1 l2
  have e2 := xor32 _ _ (Sha.xor_lt l1 l2) l3
  generalize hy1 : Sha.rotr x a = y1 at *
  generalize hy2 : Sha.rotr x b = y2 at *
  generalize hy3 : Sha.rotr x c = y3 at *
  have H1 : Hid (Sha.rotr x a = y1) := hy1
  have H2 : Hid (Sha.rotr x b = y2) := hy2
  have H3 : Hid (Sha.rotr x c = y3) := hy3
  clear hy1 hy2 hy3
  generalize y1 ^^^ y2 = y12 at *
  generalize y12 ^^^ y3 = y at *
  go_enter Tryd.func32, Tryd.ntmps32
  go_wp2_with fail
  refine (turned_any x a _ hx ha ha2).mono ?_
  rintro e w1 ⟨rfl, c1⟩
  rw [H1.out]
  go_wp2_with fail
  refine (turned_any x b _ hx hb hb2).mono ?_
  rintro e w2 ⟨rfl, c2⟩
  rw [H2.out]
  go_wp2_with fail
  refine (turned_any x c _ hx hc hc2).mono ?_
  rintro e w3 ⟨rfl, c3⟩
  rw [H3.out]
  go_wp2
  go_ret
  exact ⟨rfl, chg_then (chg_then c1 c2) c3⟩

theorem choose_any (x y z : Nat) (w : World) (hx : x < 4294967296) (hy : y < 4294967296) (hz : z < 4294967296) :
    Calls Tryd.prog 33 #[.int .u32 x, .int .u32 y, .int .u32 z] w fun e w' => e = .returned (.int .u32 (Sha.ch x y z : Nat)) ∧ w = w' := by
  have q0 := and32 x y hx hy
  have q1 : bits .xor .u32 (x : Int) 4294967295 = ((Sha.not x : Nat) : Int) := by
    have := xor32 x 4294967295 hx (by decide)
    rw [Nat.xor_comm] at this
    exact this
  have q2 := and32 (Sha.not x) z (Sha.not_lt hx) hz
  have q3 := or32 (x &&& y) (Sha.not x &&& z) (Sha.and_lt _ hy) (Sha.and_lt _ hz)
  rw [choose_eq x y z hx] at q3
  generalize Sha.ch x y z = r at *
  generalize Sha.not x = n at *
  generalize x &&& y = a at *
  generalize n &&& z = b at *
  go_enter Tryd.func33, Tryd.ntmps33
  go_wp2
  go_ret
  exact ⟨rfl, rfl⟩

theorem most_any (x y z : Nat) (w : World) (hx : x < 4294967296) (hy : y < 4294967296) (hz : z < 4294967296) :
    Calls Tryd.prog 34 #[.int .u32 x, .int .u32 y, .int .u32 z] w fun e w' => e = .returned (.int .u32 (Sha.maj x y z : Nat)) ∧ w = w' := by
  have q0 := and32 x y hx hy
  have q1 := and32 x z hx hz
  have q2 := and32 y z hy hz
  have q3 := or32 (x &&& y) (x &&& z) (Sha.and_lt _ hy) (Sha.and_lt _ hz)
  have q4 := or32 (x &&& y ||| x &&& z) (y &&& z) (Sha.or_lt (Sha.and_lt _ hy) (Sha.and_lt _ hz)) (Sha.and_lt _ hz)
  rw [most_eq x y z] at q4
  generalize Sha.maj x y z = r at *
  generalize x &&& y ||| x &&& z = d at *
  generalize x &&& y = a at *
  generalize x &&& z = b at *
  generalize y &&& z = c at *
  go_enter Tryd.func34, Tryd.ntmps34
  go_wp2
  go_ret
  exact ⟨rfl, rfl⟩

end Go.Proofs.YtnedllhlmddmoabDoor
