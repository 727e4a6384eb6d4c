/- The contracts of Reverse16 and of the program's turned; of no statement by themselves. -/
import Derived.Test.YtibgjpifmpljkaaTh
import Derived.Test.YtibgjpifmpljkaaLastQ
import Derived.Laws.BitsAllLaws
import Derived.Laws.IdiomStrings
namespace Go.Proofs.Ytibgjpifmpljkaa
open Go.RowKit
set_option linter.unusedVariables false

theorem bitAt_true (n m v i : Nat) : bitAt true n v i = bitAt true m v i := by unfold bitAt; rw [if_pos rfl, if_pos rfl]
theorem bitsOf_succ (n v : Nat) : bitsOf true (n + 1) v = bitsOf true n v ++ [v / 2 ^ n % 2] := by
  unfold bitsOf
  rw [List.range_succ, List.map_append, List.map_singleton]
  congr 1
theorem rev_up {n v : Nat} (h : v < 2 ^ n) : turnedN (n + 1) v = 2 * turnedN n v := by
  unfold turnedN
  rw [bitsOf_succ, numF_append, Nat.div_eq_of_lt h]
  rfl
theorem rev_more {n v : Nat} (h : v < 2 ^ n) : ∀ k, turnedN (n + k) v = 2 ^ k * turnedN n v
  | 0 => by simp
  | k + 1 => by
    rw [← Nat.add_assoc, rev_up (Nat.lt_of_lt_of_le h (Nat.pow_le_pow_right (by decide) (by omega))), rev_more h k, Nat.pow_succ, Nat.mul_comm (2 ^ k) 2, Nat.mul_assoc]
theorem numF_acc : ∀ (l : List Nat) (a : Nat), numF a l = a * 2 ^ l.length + numF 0 l
  | [], a => by simp [numF]
  | b :: l, a => by
    rw [show numF a (b :: l) = numF (2 * a + b) l from rfl, show numF 0 (b :: l) = numF (2 * 0 + b) l from rfl, numF_acc l (2 * a + b), numF_acc l (2 * 0 + b), List.length_cons, Nat.pow_succ, Nat.add_mul, Nat.mul_zero, Nat.zero_add, Nat.mul_comm 2 a, Nat.mul_assoc, Nat.mul_comm 2 (2 ^ l.length)]
    omega
theorem numF_two (l k : List Nat) (a : Nat) : numF a (l ++ k) = numF (numF a l) k := by
  induction l generalizing a with
  | nil => rfl
  | cons b l ih => exact ih (2 * a + b)
theorem bitsOf_two (n k v : Nat) : bitsOf true (n + k) v = bitsOf true n (v % 2 ^ n) ++ bitsOf true k (v / 2 ^ n) := by
  apply List.ext_getElem?
  intro i
  by_cases hi : i < n + k
  · rw [bitsOf_at hi]
    by_cases h1 : i < n
    · rw [List.getElem?_append_left (by rw [bitsOf_len]; exact h1), bitsOf_at h1]
      unfold bitAt
      rw [if_pos rfl, if_pos rfl]
      congr 1
      have e : 2 ^ n = 2 ^ i * (2 * 2 ^ (n - i - 1)) := by rw [← Nat.mul_assoc, ← Nat.pow_succ, ← Nat.pow_add]; congr 1; omega
      rw [e, Nat.mod_mul_right_div_self, Nat.mod_mul_right_mod]
    · rw [List.getElem?_append_right (by rw [bitsOf_len]; omega), bitsOf_len, bitsOf_at (by omega)]
      unfold bitAt
      rw [if_pos rfl, if_pos rfl, Nat.div_div_eq_div_mul, ← Nat.pow_add, show n + (i - n) = i by omega]
  · rw [List.getElem?_eq_none (by rw [bitsOf_len]; omega), List.getElem?_eq_none (by rw [List.length_append, bitsOf_len, bitsOf_len]; omega)]
theorem rev_16 (x : Nat) : turnedN 16 x = turnedN 8 (x % 256) * 256 + turnedN 8 (x / 256) := by
  unfold turnedN
  rw [show (16 : Nat) = 8 + 8 from rfl, bitsOf_two, numF_two, numF_acc, bitsOf_len]
theorem rev8_lt (y : Nat) : turnedN 8 y < 256 := turned_lt 8 y
theorem rev_or {a b : Nat} (ha : a < 256) : a ||| b * 256 = b * 256 + a := by
  rw [Nat.or_comm, Nat.mul_comm b 256]
  exact (Nat.two_pow_add_eq_or_of_lt (i := 8) ha b).symm
theorem rev_down {n v : Nat} (hn : n ≤ 16) (h : v < 2 ^ n) : turnedN 16 v / 2 ^ (16 - n) = turnedN n v := by
  have e := rev_more h (16 - n)
  rw [show n + (16 - n) = 16 by omega] at e
  rw [e, Nat.mul_div_cancel_left _ (Nat.pow_pos (by decide))]

theorem run_rev8 (s : ByteArray) (hs : ((List.range 256).all fun y => s.data[y]? == some (UInt8.ofNat (turnedN 8 y))) = true) (y : Nat) (hy : y < 256) (w : World) : (Instr.index 9 (.string s) (.int .u16 (y : Int))).run Try.prog w = .ok (.int .u8 (turnedN 8 y : Nat)) w := by
  have h := List.all_eq_true.1 hs y (List.mem_range.2 hy)
  rw [beq_iff_eq] at h
  have hsz : y < s.size := (Array.getElem?_eq_some_iff.1 h).1
  have hv : s[y] = UInt8.ofNat (turnedN 8 y) := (Array.getElem?_eq_some_iff.1 h).2
  have hl := rev8_lt y
  rw [run_index_string w 9 s .u16 (y : Int) Try.underlying9, dif_pos ⟨by omega, by omega⟩]
  simp only [Int.toNat_natCast, hv, UInt8.toNat_ofNat']
  congr 3
  omega
theorem step_rev8 {ops : Array Oper} {o : Oper} {a : Act} {w : World} {K : Act → World → Prop} {Q : Exit → Act → World → Prop} {E : Prop} (hgd : o.guard = none) (s : ByteArray) (x : Operand)
    (ho : o.op = .index 9 (.const (.string s)) x) (hs : ((List.range 256).all fun y => s.data[y]? == some (UInt8.ofNat (turnedN 8 y))) = true) (y : Nat) (hx : a.eval x = .int .u16 (y : Int)) (hy : y < 256)
    (h : K (a.put o.dst (.int .u8 (turnedN 8 y : Nat))) w) : if Region.wanted o (yielded ops a.tmps) = true then Oper.wp Try.prog o a w K Q else E := by
  have hw : Region.wanted o (yielded ops a.tmps) = true := by simp [Region.wanted, hgd]
  rw [if_pos hw]
  unfold Oper.wp execOp
  simp only [ho, hx, show a.eval (.const (.string s)) = .string s from rfl, run_rev8 s hs y hy, Sem.run_bind, Sem.run_pure, Result.andThen]
  exact h

set_option maxHeartbeats 4000000 in
set_option maxRecDepth 100000 in
theorem rev16_any (X Z : Nat) (hX : X < 65536) (hz : Z = turnedN 16 X) (w0 : World) : Calls Try.prog 67 #[.int .u16 (X : Int)] w0 fun e w' => e = .returned (.int .u16 (Z : Int)) ∧ Chg (fun _ => False) w0 w' := by
  obtain ⟨A, hA0⟩ : ∃ A, A = X / 256 := ⟨_, rfl⟩
  obtain ⟨C, hC0⟩ : ∃ C, C = X % 256 := ⟨_, rfl⟩
  obtain ⟨R1, h1⟩ : ∃ R, R = turnedN 8 A := ⟨_, rfl⟩
  obtain ⟨R2, h2⟩ : ∃ R, R = turnedN 8 C := ⟨_, rfl⟩
  have l1 := rev8_lt A
  have l2 := rev8_lt C
  rw [← h1] at l1
  rw [← h2] at l2
  have H1 : Hid (R1 = turnedN 8 A) := h1
  have H2 : Hid (R2 = turnedN 8 C) := h2
  have HA : Hid (A < 256) := by show _ < _; omega
  have HC : Hid (C < 256) := by show _ < _; omega
  obtain ⟨T, hT0⟩ : ∃ T, T = R2 * 256 := ⟨_, rfl⟩
  have hA : (X : Int) / 256 = (A : Int) := by omega
  have hC : bits .and .u16 (X : Int) 255 = (C : Int) := by
    have e := u16_and_nat X 255 (by omega) (by decide)
    rw [show ((255 : Nat) : Int) = 255 from rfl] at e
    rw [e, hC0]
    congr 1
    exact Nat.and_two_pow_sub_one_eq_mod X 8
  have hT : IntKind.u16.wrap ((R2 : Int) * 256) = (T : Int) := by simp [IntKind.wrap, IntKind.signed, IntKind.bits]; omega
  have hr1 : IntKind.u16.wrap (R1 : Int) = (R1 : Int) := by simp [IntKind.wrap, IntKind.signed, IntKind.bits]; omega
  have hr2 : IntKind.u16.wrap (R2 : Int) = (R2 : Int) := by simp [IntKind.wrap, IntKind.signed, IntKind.bits]; omega
  have hZ : bits .or .u16 (R1 : Int) (T : Int) = (Z : Int) := by
    have e := u16_or_nat R1 T (by omega) (by omega)
    rw [e, hT0, rev_or l1, hz, rev_16, ← hA0, ← hC0, ← h1, ← h2]
  clear h1 h2 hA0 hC0 hT0 hz
  go_enter Try.func67, Try.ntmps67
  go_wp2_with fail
  refine wp_region_phaseQ (mk := fun u => #[_, _, _, u 3, u 4, u 5, u 6, u 7, u 8, u 9, u 10, u 11, u 12]) (G := lookG [(3, .int .u16 (X : Int)), (4, .int .u16 (A : Int)), (5, .int .u8 (R1 : Int)), (6, .int .u16 (R1 : Int)), (7, .int .u16 (X : Int)), (8, .int .u16 (C : Int)), (9, .int .u8 (R2 : Int)), (10, .int .u16 (R2 : Int)), (11, .int .u16 (T : Int)), (12, .int .u16 (Z : Int))]) (J := fun _ _ w => Chg (fun _ => False) w0 w) [] (fun i =>  0) ([]) (fun _ => undef) rfl (by kernel_rfl) 10 _ rfl rfl (by kernel_rfl) (by kernel_rfl) (by kernel_rfl) (by decide) ?_ ?_ ?_ (by kernel_rfl) ?_ ?_
  · repeat (refine ⟨fun _ _ => rfl, ?_⟩)
    exact trivial
  · exact fun q u u2 w _ h => h
  · exact (Chg.refl _ _).drew
  · refine ⟨?_, ?_, ?_, ?_, ?_, ?_, ?_, ?_, ?_, ?_, trivial⟩
    · show StepRQ _ _ _ _ _ _ _ _ _ -- 3
      unfold StepRQ
      intro q hq u w hj hd K hK
      clear hd
      go_simp
      exact hK.out (.int .u16 (X : Int)) rfl
    · show StepRQ _ _ _ _ _ _ _ _ _ -- 4
      unfold StepRQ
      intro q hq u w hj hd K hK
      have h3 : u 3 = .int .u16 (X : Int) := hd.get 0 (by kernel_rfl)
      clear hd
      simp only [h3] at hK
      go_simp
      first | exact hK.out (.int .u16 (A : Int)) rfl | (rw [hA]; exact hK.out (.int .u16 (A : Int)) rfl)
    · show StepRQ _ _ _ _ _ _ _ _ _ -- 5
      unfold StepRQ
      intro q hq u w hj hd K hK
      have h4 : u 4 = .int .u16 (A : Int) := hd.get 1 (by kernel_rfl)
      clear hd
      rw [show R1 = turnedN 8 A from H1.out] at hK
      refine step_rev8 (a := ⟨_, []⟩) ?g _ (.tmp 4) rfl ?t A ?v HA.out ?k
      case g => rfl
      case t => decide +kernel
      case v => exact h4
      case k => exact hK.out _ rfl
    · show StepRQ _ _ _ _ _ _ _ _ _ -- 6
      unfold StepRQ
      intro q hq u w hj hd K hK
      have h5 : u 5 = .int .u8 (R1 : Int) := hd.get 2 (by kernel_rfl)
      clear hd
      simp only [h5] at hK
      go_simp
      first | exact hK.out (.int .u16 (R1 : Int)) rfl | (rw [hr1]; exact hK.out (.int .u16 (R1 : Int)) rfl)
    · show StepRQ _ _ _ _ _ _ _ _ _ -- 7
      unfold StepRQ
      intro q hq u w hj hd K hK
      clear hd
      go_simp
      exact hK.out (.int .u16 (X : Int)) rfl
    · show StepRQ _ _ _ _ _ _ _ _ _ -- 8
      unfold StepRQ
      intro q hq u w hj hd K hK
      have h7 : u 7 = .int .u16 (X : Int) := hd.get 4 (by kernel_rfl)
      clear hd
      simp only [h7] at hK
      go_simp
      first | exact hK.out (.int .u16 (C : Int)) rfl | (rw [hC]; exact hK.out (.int .u16 (C : Int)) rfl)
    · show StepRQ _ _ _ _ _ _ _ _ _ -- 9
      unfold StepRQ
      intro q hq u w hj hd K hK
      have h8 : u 8 = .int .u16 (C : Int) := hd.get 5 (by kernel_rfl)
      clear hd
      rw [show R2 = turnedN 8 C from H2.out] at hK
      refine step_rev8 (a := ⟨_, []⟩) ?g _ (.tmp 8) rfl ?t C ?v HC.out ?k
      case g => rfl
      case t => decide +kernel
      case v => exact h8
      case k => exact hK.out _ rfl
    · show StepRQ _ _ _ _ _ _ _ _ _ -- 10
      unfold StepRQ
      intro q hq u w hj hd K hK
      have h9 : u 9 = .int .u8 (R2 : Int) := hd.get 6 (by kernel_rfl)
      clear hd
      simp only [h9] at hK
      go_simp
      first | exact hK.out (.int .u16 (R2 : Int)) rfl | (rw [hr2]; exact hK.out (.int .u16 (R2 : Int)) rfl)
    · show StepRQ _ _ _ _ _ _ _ _ _ -- 11
      unfold StepRQ
      intro q hq u w hj hd K hK
      have h10 : u 10 = .int .u16 (R2 : Int) := hd.get 7 (by kernel_rfl)
      clear hd
      simp only [h10] at hK
      go_simp
      first | exact hK.out (.int .u16 (T : Int)) rfl | (rw [hT]; exact hK.out (.int .u16 (T : Int)) rfl)
    · show StepRQ _ _ _ _ _ _ _ _ _ -- 12
      unfold StepRQ
      intro q hq u w hj hd K hK
      have h6 : u 6 = .int .u16 (R1 : Int) := hd.get 3 (by kernel_rfl)
      have h11 : u 11 = .int .u16 (T : Int) := hd.get 8 (by kernel_rfl)
      clear hd
      simp only [h6, h11] at hK
      go_simp
      first | exact hK.out (.int .u16 (Z : Int)) rfl | (rw [hZ]; exact hK.out (.int .u16 (Z : Int)) rfl)
  · intro u w hj hA K hK
    have e12 : u 12 = .int .u16 (Z : Int) := hA.at 12 (by kernel_rfl)
    clear hA
    have HCJ : Hid (Chg (fun _ => False) w0 w) := hj
    go_simp
    refine hK.out _ _ ?_
    go_wp2
    go_ret
    exact ⟨rfl, HCJ.out⟩

set_option maxHeartbeats 4000000 in
set_option maxRecDepth 100000 in
theorem pturned_any (N V Z : Nat) (hN : N ≤ 16) (hV : V < 2 ^ N) (hz : Z = turnedN N V) (w0 : World) : Calls Try.prog 41 #[.int .i64 (N : Int), .int .i64 (V : Int)] w0 fun e w' => e = .returned (.int .i64 (Z : Int)) ∧ Chg (fun _ => False) w0 w' := by
  have hV16 : V < 65536 := Nat.lt_of_lt_of_le hV (pow16 hN)
  obtain ⟨X, hX⟩ : ∃ X, X = turnedN 16 V := ⟨_, rfl⟩
  have HCALL : Hid (∀ w, Calls Try.prog 67 #[.int .u16 (V : Int)] w fun e w' => e = .returned (.int .u16 (X : Int)) ∧ Chg (fun _ => False) w w') := rev16_any V X hV16 hX
  obtain ⟨M, hM⟩ : ∃ M, M = 16 - N := ⟨_, rfl⟩
  have hsub : (16 : Int) - (N : Int) = (M : Int) := by omega
  have hM16 : (M : Int) ≤ 16 := by omega
  have hz16 : (Z : Int) < 65536 := by have := turned_lt N V; have := pow16 hN; omega
  have hx16 : (X : Int) < 65536 := by have := turned_lt 16 V; omega
  have hq : (X : Int) / 2 ^ M = (Z : Int) := by
    have e := rev_down hN hV
    rw [← hX, ← hM, ← hz] at e
    rw [← e]
    simp
  have hw : IntKind.u16.wrap (V : Int) = (V : Int) := by simp [IntKind.wrap, IntKind.signed, IntKind.bits]; omega
  clear hV hz hX hM
  go_enter Try.func41, Try.ntmps41
  go_wp2_with fail
  refine (HCALL.out _).mono ?_
  rintro z w1 ⟨rfl, c1⟩
  have HC : Hid (Chg (fun _ => False) w0 w1) := c1
  clear c1
  go_wp2
  go_ret
  exact ⟨rfl, HC.out⟩
end Go.Proofs.Ytibgjpifmpljkaa
