/- The contract of the program's loop down a tree, over any literal that does a bit; of no statement by itself. -/
import Derived.Test.YtibgjpifmpljkaaBoundH
import Derived.Test.YtibgjpifmpljkaaPa
namespace Go.Proofs.Ytibgjpifmpljkaa
open Go.RowKit
set_option linter.unusedVariables false

/-- What a bit's literal answers: an error, or a bit. -/
def BitSays (I : Nat → Nat → World → Prop) (E : Nat → World → Prop) (j m : Nat) (x : Ending) (w' : World) : Prop :=
  (∃ e : Nat, 0 < e ∧ x = .returned (.tuple #[.int .i64 0, .int .i64 (e : Int)]) ∧ E e w') ∨ (∃ b : Nat, b ≤ 1 ∧ x = .returned (.tuple #[.int .i64 (b : Int), .int .i64 0]) ∧ I j (2 * m + b) w')
set_option maxHeartbeats 4000000 in
set_option maxRecDepth 100000 in
theorem down_any (g : FuncId) (cap : Array Value) (P N : Nat) (I : Nat → Nat → World → Prop) (E : Nat → World → Prop) (hN : N ≤ 16) (hP : P ≤ 1048576) (hg : ∀ args w, (callFunc g args).run Try.prog w = .ok (.enter g args) w)
    (hstep : ∀ j m w, j < N → m < 2 ^ (N - j) → I (j + 1) m w → Calls Try.prog g (#[.int .i64 ((P : Int) + (m : Int)), .int .i64 (j : Int)] ++ cap) w (BitSays I E j m))
    (w0 : World) (h0 : I N 1 w0) :
    Calls Try.prog 38 #[.int .i64 (P : Int), .int .i64 (N : Int), .func (.func g) #[] cap] w0 fun x w' =>
      (∃ e : Nat, 0 < e ∧ x = .returned (.tuple #[.int .i64 0, .int .i64 (e : Int)]) ∧ E e w') ∨ (∃ z : Nat, z < 2 ^ N ∧ x = .returned (.tuple #[.int .i64 (z : Int), .int .i64 0]) ∧ I 0 (z + 2 ^ N) w') := by
  have HST : Hid _ := hstep
  have H0 : Hid (I N 1 w0) := h0
  have hd0 : IntKind.i64.wrap ((N : Int) - 1) = (N : Int) - 1 := by simp [IntKind.wrap, IntKind.signed, IntKind.bits]; omega
  clear hstep h0
  go_enter Try.func38, Try.ntmps38
  go_wp2_with fail
  go_loopw [8, 9] (fun nv lv wr => ∃ (j m : Nat) (L : Int), j ≤ N ∧ nv = .int .i64 (m : Int) ∧ lv = .int .i64 L ∧ L + 1 = (j : Int) ∧ Hid (2 ^ (N - j) ≤ m ∧ m < 2 ^ (N - j + 1)) ∧ Hid (I j m wr)) (fun _ lv _ => (intOf lv + 1).toNat)
  case atStart => exact ⟨N, 1, (N : Int) - 1, Nat.le_refl _, rfl, rfl, by omega, by simp [Hid], H0.out⟩
  case round =>
    clear H0
    obtain ⟨j, m, L, hj, rfl, rfl, hL, HM, HI⟩ := hrel
    have hm17 : m < 131072 := Nat.lt_of_lt_of_le HM.out.2 (Nat.pow_le_pow_right (n := 2) (j := 17) (by decide) (by omega))
    cases j with
    | zero =>
      have hL0 : L = -1 := by omega
      subst hL0
      obtain ⟨Y, hY⟩ : ∃ Y : Nat, Y = 2 ^ N := ⟨_, rfl⟩
      have hsh : (2 : Int) ^ N = (Y : Int) := by rw [hY]; simp
      have hY3 : (Y : Int) ≤ 65536 := by have := pow16 (n := N) (by omega); omega
      obtain ⟨z, hz⟩ : ∃ z : Nat, m = z + Y := ⟨m - Y, by have := HM.out.1; rw [Nat.sub_zero] at this; omega⟩
      have HZ : Hid (z < 2 ^ N ∧ I 0 (z + 2 ^ N) wr) := ⟨by have := HM.out.2; rw [Nat.sub_zero, Nat.pow_succ] at this; omega, by rw [← hY, ← hz]; exact HI.out⟩
      have hmz : (m : Int) - (Y : Int) = (z : Int) := by omega
      clear hY hz HM HI hL hj
      go_wp2
      go_ret2
      exact .inr ⟨z, HZ.out.1, rfl, HZ.out.2⟩
    | succ j =>
      have hLj : L = (j : Int) := by omega
      subst hLj
      have HC := HST.out j m wr (by omega) (by have := HM.out.2; rw [show N - (j + 1) + 1 = N - j by omega] at this; exact this) HI.out
      have HC2 : Hid _ := HC
      clear HC HI hL
      go_wp2_with fail
      refine Calls.mono HC2.out ?_
      clear HC2
      rintro x w1 (⟨e, he, rfl, hE⟩ | ⟨b, hb, rfl, hI⟩)
      · have HE : Hid (E e w1) := hE
        have hd : decide ((e : Int) = 0) = false := by simp; omega
        have hd2 : ((e : Int) == 0) = false := by simp; omega
        clear hE
        go_wp2
        go_ret2
        exact .inl ⟨e, he, rfl, HE.out⟩
      · have HI : Hid (I j (2 * m + b) w1) := hI
        have HM2 : Hid (2 ^ (N - j) ≤ 2 * m + b ∧ 2 * m + b < 2 ^ (N - j + 1)) := by
          have h1 := HM.out.1
          have h2 := HM.out.2
          rw [show N - j = N - (j + 1) + 1 by omega, Nat.pow_succ, Nat.pow_succ]
          rw [Nat.pow_succ] at h2
          constructor <;> omega
        clear hI HM
        go_wp2_with fail
        go_roundw
        case rel => exact ⟨j, 2 * m + b, (j : Int) - 1, by omega, by go_num, rfl, by omega, HM2.out, HI.out⟩
        case measure => simp [intOf]
end Go.Proofs.Ytibgjpifmpljkaa
