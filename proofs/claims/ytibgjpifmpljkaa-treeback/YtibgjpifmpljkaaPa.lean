/- The contracts of the program's there and fits; of no statement by themselves. -/
import Derived.Test.YtibgjpifmpljkaaTa
import Derived.Test.YtibgjpifmpljkaaBoundA
import Derived.BigQuiet
import Derived.Deep.QuietTactic
namespace Go.Proofs.Ytibgjpifmpljkaa
open Go.RowKit
set_option linter.unusedVariables false

theorem quiet_of {P : Program} {f : FuncId} {args : Array Value} {X : Ending} {w : World} {k : Nat} (h : Calls P f args (w.drewN k) fun e w' => e = X ∧ w.drewN k = w') : Calls P f args (w.drewN k) fun e w'' => e = X ∧ ∃ m, w'' = w.drewN m :=
  h.mono fun _ _ ⟨h1, h2⟩ => ⟨h1, k, h2.symm⟩

set_option maxHeartbeats 4000000 in
set_option maxRecDepth 100000 in
theorem pthere_any (B s : Nat) (p n : Int) (v : Value) (xs : List Int) (w0 : World) (h : St w0 B s v xs) (hlen : xs.length ≤ 1048576) (hp : I64 p) (hn : I64 n) : Calls Try.prog 64 #[.pointer (some ⟨s, 0, none⟩), .int .i64 p, .int .i64 n] w0 fun e w' => e = .returned (.bool (decide (Stands xs.length p n))) ∧ Chg (fun _ => False) w0 w' := by
  obtain ⟨len, hl⟩ : ∃ len, xs.length = len := ⟨_, rfl⟩
  have HLEN : Hid (∀ w, St w B s v xs → Calls Try.prog 16 #[.pointer (some ⟨s, 0, none⟩)] w fun e w' => e = .returned (.int .i64 (len : Int)) ∧ w = w') := fun w h => by
    have := len_any B s v xs w h
    rw [hl] at this
    exact this
  have HS : Hid (St w0 B s v xs) := h
  rw [hl] at hlen ⊢
  obtain ⟨hp1, hp2⟩ := hp
  obtain ⟨hn1, hn2⟩ := hn
  have HST : Hid (Stands len p n → 0 ≤ n ∧ n ≤ 16 ∧ 0 ≤ p) := fun ⟨h1, h2, h3, h4⟩ => ⟨h1, h2, h3⟩
  clear h hl
  by_cases c0 : 0 ≤ n
  rotate_left
  · have q0 : decide (0 ≤ n) = false := by simp; omega
    have HR : Hid (decide (Stands len p n) = false) := decide_eq_false (fun h => by obtain ⟨h1, h2, h3⟩ := HST.out h; omega)
    clear HST c0
    go_enter Try.func64, Try.ntmps64
    go_wp2_with fail
    go_quiet (fail)
    go_wp2
    go_ret
    exact ⟨by rw [HR.out]; rfl, chg_drewN _ _⟩
  by_cases c1 : n ≤ 16
  rotate_left
  · have q0 : decide (0 ≤ n) = true := by simp; omega
    have q1 : decide (n ≤ 16) = false := by simp; omega
    have HR : Hid (decide (Stands len p n) = false) := decide_eq_false (fun h => by obtain ⟨h1, h2, h3⟩ := HST.out h; omega)
    clear HST c0 c1
    go_enter Try.func64, Try.ntmps64
    go_wp2_with fail
    go_quiet (fail)
    go_wp2
    go_ret
    exact ⟨by rw [HR.out]; rfl, chg_drewN _ _⟩
  by_cases c2 : 0 ≤ p
  rotate_left
  · have q0 : decide (0 ≤ n) = true := by simp; omega
    have q1 : decide (n ≤ 16) = true := by simp; omega
    have q2 : decide (0 ≤ p) = false := by simp; omega
    have HR : Hid (decide (Stands len p n) = false) := decide_eq_false (fun h => by obtain ⟨h1, h2, h3⟩ := HST.out h; omega)
    clear HST c0 c1 c2
    go_enter Try.func64, Try.ntmps64
    go_wp2_with fail
    go_quiet (fail)
    go_wp2
    go_ret
    exact ⟨by rw [HR.out]; rfl, chg_drewN _ _⟩
  obtain ⟨N, rfl⟩ : ∃ N : Nat, (N : Int) = n := ⟨n.toNat, by omega⟩
  obtain ⟨Y, hY⟩ : ∃ Y : Nat, Y = 2 ^ N := ⟨_, rfl⟩
  have hsh : (2 : Int) ^ N = (Y : Int) := by rw [hY]; simp
  have hY3 : (Y : Int) ≤ 65536 := by have := pow16 (n := N) (by omega); omega
  obtain ⟨t, ht⟩ : ∃ t, t = decide (p ≤ (len : Int) - (Y : Int)) := ⟨_, rfl⟩
  have HT : Hid (decide (p ≤ (len : Int) - (Y : Int)) = t) := ht.symm
  have HR : Hid (decide (Stands len p (N : Int)) = t) := by
    show _ = _
    rw [ht]
    refine decide_eq_decide.2 ⟨fun ⟨h1, h2, h3, h4⟩ => ?_, fun h4 => ⟨c0, c1, c2, ?_⟩⟩
    · simp only [Int.toNat_natCast] at h4
      omega
    · simp only [Int.toNat_natCast]
      omega
  have q0 : decide (0 ≤ (N : Int)) = true := by simp
  have q1 : decide ((N : Int) ≤ 16) = true := by simp; omega
  have q2 : decide (0 ≤ p) = true := by simp; omega
  have q3 : decide (p ≤ (len : Int) - (Y : Int)) = t := HT.out
  clear ht HST hY c0
  go_enter Try.func64, Try.ntmps64
  go_wp2_with fail
  go_quiet (first | (go_at_call 16; exact quiet_of (HLEN.out _ (HS.out.new (chg_drewN _ _)))))
  go_wp2
  go_ret
  exact ⟨by rw [HR.out]; rfl, chg_drewN _ _⟩

set_option maxHeartbeats 4000000 in
set_option maxRecDepth 100000 in
theorem pfits_any (B s : Nat) (p n x : Int) (v : Value) (xs : List Int) (w0 : World) (h : St w0 B s v xs) (hlen : xs.length ≤ 1048576) (hp : I64 p) (hn : I64 n) (hx : I64 x) : Calls Try.prog 37 #[.pointer (some ⟨s, 0, none⟩), .int .i64 p, .int .i64 n, .int .i64 x] w0 fun e w' => e = .returned (.bool (decide (Fits xs.length p n x))) ∧ Chg (fun _ => False) w0 w' := by
  have HTH := pthere_any B s p n v xs w0 h hlen hp hn
  by_cases c0 : Stands xs.length p n
  rotate_left
  · have HR : Hid (decide (Fits xs.length p n x) = false) := decide_eq_false (fun f => c0 f.1)
    rw [decide_eq_false c0] at HTH
    have HTH2 : Hid (Calls Try.prog 64 #[.pointer (some ⟨s, 0, none⟩), .int .i64 p, .int .i64 n] w0 fun e w' => e = .returned (.bool false) ∧ Chg (fun _ => False) w0 w') := HTH
    clear HTH c0 h
    go_enter Try.func37, Try.ntmps37
    go_wp2_with fail
    refine HTH2.out.mono ?_
    rintro z w1 ⟨rfl, c1⟩
    have HC : Hid (Chg (fun _ => False) w0 w1) := c1
    clear c1
    go_wp2
    go_ret
    exact ⟨by rw [HR.out]; rfl, HC.out⟩
  rw [decide_eq_true c0] at HTH
  have HTH2 : Hid (Calls Try.prog 64 #[.pointer (some ⟨s, 0, none⟩), .int .i64 p, .int .i64 n] w0 fun e w' => e = .returned (.bool true) ∧ Chg (fun _ => False) w0 w') := HTH
  have HC0 : Hid (Stands xs.length p n) := c0
  obtain ⟨hx1, hx2⟩ := hx
  have hn0 := c0.1
  have hn16 := c0.2.1
  clear HTH c0 h
  by_cases c1 : 0 ≤ x
  rotate_left
  · have HR : Hid (decide (Fits xs.length p n x) = false) := decide_eq_false (fun f => c1 f.2.1)
    have q0 : decide (0 ≤ x) = false := by simp; omega
    clear c1
    go_enter Try.func37, Try.ntmps37
    go_wp2_with fail
    refine HTH2.out.mono ?_
    rintro z w1 ⟨rfl, c1⟩
    have HC : Hid (Chg (fun _ => False) w0 w1) := c1
    clear c1
    go_wp2
    go_ret
    exact ⟨by rw [HR.out]; rfl, HC.out⟩
  obtain ⟨N, rfl⟩ : ∃ N : Nat, (N : Int) = n := ⟨n.toNat, by omega⟩
  obtain ⟨Y, hY⟩ : ∃ Y : Nat, Y = 2 ^ N := ⟨_, rfl⟩
  have hsh : (2 : Int) ^ N = (Y : Int) := by rw [hY]; simp
  have hY3 : (Y : Int) ≤ 65536 := by have := pow16 (n := N) (by omega); omega
  obtain ⟨t, ht⟩ : ∃ t, t = decide (x < (Y : Int)) := ⟨_, rfl⟩
  have HR : Hid (decide (Fits xs.length p (N : Int) x) = t) := by
    show _ = _
    rw [ht]
    refine decide_eq_decide.2 ⟨fun ⟨h1, h2, h3⟩ => ?_, fun h4 => ⟨HC0.out, c1, ?_⟩⟩
    · rw [Int.toNat_natCast, hsh] at h3
      exact h3
    · rw [Int.toNat_natCast, hsh]
      exact h4
  have q0 : decide (0 ≤ x) = true := by simp; omega
  have q3 : decide (x < (Y : Int)) = t := ht.symm
  clear ht hY hn0
  go_enter Try.func37, Try.ntmps37
  go_wp2_with fail
  refine HTH2.out.mono ?_
  rintro z w1 ⟨rfl, c1⟩
  have HC : Hid (Chg (fun _ => False) w0 w1) := c1
  clear c1
  go_wp2
  go_ret
  exact ⟨by rw [HR.out]; rfl, HC.out⟩
end Go.Proofs.Ytibgjpifmpljkaa
