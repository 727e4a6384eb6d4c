/- The finder's small functions; of no statement by themselves. -/
import Derived.Test.YtkdionoelbiidaaLc
import Derived.Test.YtkdionoelbiidaaFb
import Derived.Laws.BitsAllLaws
namespace Go.Proofs.Ytkdionoelbiidaa
open Go.RowKit
set_option linter.unusedVariables false
set_option linter.unusedSimpArgs false

theorem cells4 {w : World} {a : Nat} {x y z u : Value} {t : TypeId} (h : w.heap[a]? = some (.cells #[x, y, z, u] t (0, 0))) : w.cell? ⟨a, 0, none⟩ = some x ∧ w.cell? ⟨a, 1, none⟩ = some y ∧ w.cell? ⟨a, 2, none⟩ = some z ∧ w.cell? ⟨a, 3, none⟩ = some u ∧ w.frozen? ⟨a, 2, none⟩ = false :=
  ⟨by simp [World.cell?, h], by simp [World.cell?, h], by simp [World.cell?, h], by simp [World.cell?, h], by simp [World.frozen?, h]⟩
theorem min3 (x y z : Int) (w : World) : (Builtin.min_ #[3, 3, 3] 3 #[.int .i64 x, .int .i64 y, .int .i64 z]).run Try.prog w = .ok (.int .i64 (min (min x y) z)) w := by
  rw [show (Builtin.min_ #[3, 3, 3] 3 #[.int .i64 x, .int .i64 y, .int .i64 z]).run Try.prog w = .ok (.int .i64 (if z < (if y < x then y else x) then z else (if y < x then y else x))) w by simp [Builtin.min_, Builtin.min2]]
  congr 2
  have e1 : (if y < x then y else x) = min x y := by split <;> omega
  rw [e1]
  split <;> omega
theorem max2 (x y : Int) (w : World) : (Builtin.max_ #[3, 3] 3 #[.int .i64 x, .int .i64 y]).run Try.prog w = .ok (.int .i64 (max x y)) w := by
  simp [Builtin.max_, Builtin.max2]
  split <;> omega
theorem or3 (a b c : Nat) (ha : a < 256) (hb : b < 256) (hc : c < 256) : bits .or .u32 (bits .or .u32 ((a : Int) * 65536) ((b : Int) * 256)) (c : Int) = ((a * 65536 + b * 256 + c : Nat) : Int) := by
  have e0 : ((a : Int) * 65536) = ((a * 65536 : Nat) : Int) := by omega
  have e1 : ((b : Int) * 256) = ((b * 256 : Nat) : Int) := by omega
  have h1 : a * 65536 ||| b * 256 = a * 65536 + b * 256 := by
    have := Nat.two_pow_add_eq_or_of_lt (i := 16) (b := b * 256) (by omega) a
    rw [Nat.mul_comm a]; exact this.symm
  have h2 : (a * 65536 + b * 256) ||| c = a * 65536 + b * 256 + c := by
    have := Nat.two_pow_add_eq_or_of_lt (i := 8) (b := c) (by omega) (a * 256 + b)
    have e : 2 ^ 8 * (a * 256 + b) = a * 65536 + b * 256 := by omega
    rw [e] at this; exact this.symm
  rw [e0, e1, u32_or_nat _ _ (by omega) (by omega), h1, u32_or_nat _ _ (by omega) (by omega), h2]
theorem pos_any (γ : Gh) (B a : Nat) (d : List Nat) (n p : Nat) (w : World) (h : Fi γ w B a d n p) : Calls Try.prog 16 #[.pointer (some ⟨a, 0, none⟩)] w fun e w' => e = .returned (.int .i64 (p : Int)) ∧ Chg (fun _ => False) w w' := by
  obtain ⟨c0, c1, c2, c3, _⟩ := cells4 h.blk
  clear h
  go_enter Try.func16, Try.ntmps16
  go_wp2
  go_ret
  exact ⟨rfl, Chg.refl _ _⟩
theorem left_q (a : Nat) (ad : Option Addr) (L c p : Nat) (x1 x3 : Value) (w : World) (hblk : w.heap[a]? = some (.cells #[.slice ad L c, x1, .int .i64 (p : Int), x3] 60 (0, 0))) (hp : p ≤ L) (hL : L ≤ 140737488355328) : Calls Try.prog 25 #[.pointer (some ⟨a, 0, none⟩)] w fun e w' => e = .returned (.int .i64 ((L - p : Nat) : Int)) ∧ ∃ k, w' = w.drewN k := by
  obtain ⟨c0, c1, c2, c3, _⟩ := cells4 hblk
  obtain ⟨E, hE⟩ : ∃ E, L - p = E := ⟨_, rfl⟩
  have hEi : (L : Int) - (p : Int) = (E : Int) := by omega
  have hLi : (L : Int) ≤ 140737488355328 := by omega
  have hpi : (p : Int) ≤ 140737488355328 := by omega
  rw [hE]
  clear hblk hE
  go_enter Try.func25, Try.ntmps25
  go_wp2_with fail
  go_quiet (fail)
  go_wp2
  go_ret
  exact ⟨by go_num, _, rfl⟩
set_option maxHeartbeats 1000000 in
theorem reach_q (a : Nat) (ad : Option Addr) (L c p : Nat) (x1 x3 : Value) (most : Int) (w : World) (hm : I64 most) (hblk : w.heap[a]? = some (.cells #[.slice ad L c, x1, .int .i64 (p : Int), x3] 60 (0, 0))) (hp : p ≤ L) (hL : L ≤ 140737488355328) : Calls Try.prog 24 #[.pointer (some ⟨a, 0, none⟩), .int .i64 most] w fun e w' => e = .returned (.int .i64 (min (min most 273) ((L - p : Nat) : Int))) ∧ ∃ k, w' = w.drewN k := by
  have HL : Hid _ := left_q a ad L c p x1 x3 w hblk hp hL
  obtain ⟨E, hE⟩ : ∃ E, L - p = E := ⟨_, rfl⟩
  rw [hE] at HL ⊢
  have hEi : (E : Int) ≤ 140737488355328 := by omega
  clear hblk hE hp hL
  go_enter Try.func24, Try.ntmps24
  go_wp2_with fail
  refine Calls.mono HL.out ?_
  rintro z w1 ⟨rfl, k, rfl⟩
  have hmn := min3 most 273 (E : Int) (w.drewN k)
  clear HL
  go_wp2
  go_ret
  refine ⟨?_, _, rfl⟩
  rw [Int.min_assoc]
  rfl
set_option maxHeartbeats 4000000 in
set_option maxRecDepth 100000 in
theorem three_q (a g : Nat) (L c : Nat) (x1 x2 x3 : Value) (d : List Nat) (p : Nat) (w : World) (hblk : w.heap[a]? = some (.cells #[.slice (some ⟨g, 0, none⟩) L c, x1, x2, x3] 60 (0, 0))) (hL : L ≤ 140737488355328) (hp : p + 3 ≤ L) (b0 b1 b2 : Nat) (h0 : b0 < 256) (h1 : b1 < 256) (h2 : b2 < 256)
    (k0 : w.cell? ⟨g, p, none⟩ = some (.int .u8 (b0 : Int))) (k1 : w.cell? ⟨g, p + 1, none⟩ = some (.int .u8 (b1 : Int))) (k2 : w.cell? ⟨g, p + 2, none⟩ = some (.int .u8 (b2 : Int))) : Calls Try.prog 32 #[.pointer (some ⟨a, 0, none⟩), .int .i64 (p : Int)] w fun e w' => e = .returned (.int .u32 ((b0 * 65536 + b1 * 256 + b2 : Nat) : Int)) ∧ ∃ k, w' = w.drewN k := by
  obtain ⟨c0, _⟩ := cells4 hblk
  have hLi : (L : Int) ≤ 140737488355328 := by omega
  have hpi : (p : Int) ≤ 140737488355328 := by omega
  have hp0 : p < L := by omega
  obtain ⟨p1, hp1⟩ : ∃ p1, p + 1 = p1 := ⟨_, rfl⟩
  obtain ⟨p2, hp2⟩ : ∃ p2, p + 2 = p2 := ⟨_, rfl⟩
  have e1 : (p : Int) + 1 = (p1 : Int) := by omega
  have e2 : (p : Int) + 2 = (p2 : Int) := by omega
  have l1 : p1 < L := by omega
  have l2 : p2 < L := by omega
  rw [hp1] at k1
  rw [hp2] at k2
  have i0 : (b0 : Int) < 256 := by omega
  have i1 : (b1 : Int) < 256 := by omega
  have i2 : (b2 : Int) < 256 := by omega
  clear hblk hp1 hp2 hp
  go_enter Try.func32, Try.ntmps32
  go_wp2_with fail
  go_quiet (fail)
  go_wp2
  go_ret
  refine ⟨?_, _, rfl⟩
  rw [← or3 b0 b1 b2 h0 h1 h2]
  rfl
set_option maxHeartbeats 4000000 in
set_option maxRecDepth 100000 in
/-- How many bytes are the same. -/
theorem alike_q (a : Nat) (x1 x2 x3 : Value) (ad : Option Addr) (L c : Nat) (d : List Nat) (p q0 r : Nat) (w : World) (hblk : w.heap[a]? = some (.cells #[.slice ad L c, x1, x2, x3] 60 (0, 0))) (hr : Row8 w ad L c (nums d)) (ht : q0 ≤ p) (hp : p + r ≤ L) (hL : L ≤ 140737488355328) (hr3 : r ≤ 273) : Calls Try.prog 30 #[.pointer (some ⟨a, 0, none⟩), .int .i64 (q0 : Int), .int .i64 (p : Int), .int .i64 (r : Int)] w fun e w' => e = .returned (.int .i64 ((runN d p q0 r : Nat) : Int)) ∧ ∃ k, w' = w.drewN k := by
  obtain ⟨kc0, _⟩ := cells4 hblk
  have HR : Hid (Row8 w ad L c (nums d)) := hr
  have hdl : d.length = L := by have := hr.1; rw [nums_len] at this; exact this
  have HDL : Hid (d.length = L) := hdl
  have hri : (r : Int) ≤ 273 := by omega
  clear hr hdl hblk
  go_enter Try.func30, Try.ntmps30
  go_wp2_with fail
  go_loopw [9] (fun v wr => ∃ k q : Nat, k ≤ r ∧ v = .int .i64 (k : Int) ∧ wr = w.drewN q ∧ Hid (∀ j, j < k → okAt d p q0 j)) (fun v _ => r - (intOf v).toNat)
  case atStart => exact ⟨0, 0, Nat.zero_le _, rfl, rfl, fun j hj => by omega⟩
  case round =>
    obtain ⟨k, q, hk, rfl, rfl, HK⟩ := hrel
    have hki : (k : Int) ≤ 273 := by omega
    by_cases h1 : k < r
    · have hd1 : decide ((k : Int) < (r : Int)) = true := by simp; omega
      have hd1' : decide (k < r) = true := decide_eq_true h1
      obtain ⟨x, hx⟩ : ∃ x, p + k = x := ⟨_, rfl⟩
      have hxi : (p : Int) + (k : Int) = (x : Int) := by omega
      have hxb : (x : Int) ≤ 140737488355601 := by omega
      have h2 : x < L := by omega
      obtain ⟨y, hy⟩ : ∃ y, q0 + k = y := ⟨_, rfl⟩
      have hyi : (q0 : Int) + (k : Int) = (y : Int) := by omega
      have hyL : y < L := by omega
      have hyb : (y : Int) ≤ 140737488355601 := by omega
      obtain ⟨b1, hb1⟩ : ∃ b1, d[x]? = some b1 := ⟨_, List.getElem?_eq_getElem (by rw [HDL.out]; exact h2)⟩
      obtain ⟨b2, hb2⟩ : ∃ b2, d[y]? = some b2 := ⟨_, List.getElem?_eq_getElem (by rw [HDL.out]; exact hyL)⟩
      obtain ⟨X, hX, hc1⟩ := row8_at HR.out hb1
      obtain ⟨X', hX', hc2⟩ := row8_at HR.out hb2
      subst hX
      cases hX'
      have HOK : Hid (okAt d p q0 k ↔ b2 = b1) := by
        show _ ↔ _
        have e1 : q0 + k = y := by omega
        have hl1 := HDL.out
        rw [okAt_iff (by omega) (by omega)]
        have hb1' := (List.getElem?_eq_some_iff.1 hb1).2
        have hb2' := (List.getElem?_eq_some_iff.1 hb2).2
        rw [← hb1', ← hb2']
        simp only [e1, hx]
      by_cases h3 : b1 = b2
      · subst h3
        have HK2 : Hid (∀ j, j < k + 1 → okAt d p q0 j) := fun j hj => by
          by_cases e : j = k
          · rw [e]; exact HOK.out.2 rfl
          · exact HK.out j (by omega)
        have hbb : decide ((b1 : Int) = (b1 : Int)) = true := by simp
        have hbe : ((b1 : Int) == (b1 : Int)) = true := by simp
        clear HK HOK hx hy hb1 hb2
        go_wp2_with fail
        go_quiet (fail)
        go_wp2_with fail
        go_roundw
        case rel => exact ⟨k + 1, _, by omega, by go_num, rfl, HK2.out⟩
        case measure => simp [intOf]; omega
      · have HRES : Hid (runN d p q0 r = k) := runN_is hk HK.out (.inr (fun f => h3 (HOK.out.1 f).symm))
        have hbb : decide ((b2 : Int) = (b1 : Int)) = false := by simp; omega
        have hbe : ((b2 : Int) == (b1 : Int)) = false := by rw [beq_eq_false_iff_ne]; omega
        clear HK HOK hx hy hb1 hb2
        go_wp2_with fail
        go_quiet (fail)
        go_wp2
        go_ret
        exact ⟨by rw [HRES.out]; rfl, _, World.drewN_drewN _ _ _⟩
    · have HRES : Hid (runN d p q0 r = k) := runN_is hk HK.out (.inl (by omega))
      have hd1 : decide ((k : Int) < (r : Int)) = false := by simp; omega
      have hd1' : decide (k < r) = false := decide_eq_false h1
      clear HK
      go_wp2_with fail
      go_quiet (fail)
      go_wp2
      go_ret
      exact ⟨by rw [HRES.out]; rfl, _, World.drewN_drewN _ _ _⟩
end Go.Proofs.Ytkdionoelbiidaa
