/- The contracts of ended, length and Get; of no statement by themselves. -/
import Derived.Test.YtkjjcdkobapedaaDoorNums
namespace Go.Proofs.YtkjjcdkobapedaaDoor
open Go.RowKit

theorem ended_no (i x : Int) (w : World) (hi : 0 < i) (hx : x = 0) :
    Calls Tryd.prog 22 #[.int .i64 i, .int .u8 x] w fun e w' => e = .returned (.tuple #[.int .i64 0, .int .i64 2]) ∧ w = w' := by
  subst hx
  go_enter Tryd.func22, Tryd.ntmps22
  go_wp2
  go_ret2
  exact ⟨rfl, rfl⟩

theorem ended_yes (i x : Int) (w : World) (h0 : 0 ≤ i) (h1 : i ≤ 9) (h : ¬ (0 < i ∧ x = 0)) :
    Calls Tryd.prog 22 #[.int .i64 i, .int .u8 x] w fun e w' => e = .returned (.tuple #[.int .i64 (i + 1), .int .i64 0]) ∧ w = w' := by
  by_cases hi : 0 < i
  · have hx : (x == 0) = false := beq_eq_false_iff_ne.2 (fun e => h ⟨hi, e⟩)
    clear h
    go_enter Tryd.func22, Tryd.ntmps22
    go_wp2
    go_ret2
    exact ⟨rfl, rfl⟩
  · obtain rfl : i = 0 := by omega
    clear h
    go_enter Tryd.func22, Tryd.ntmps22
    go_wp2
    go_ret2
    exact ⟨rfl, rfl⟩

theorem cell_at {w : World} {x : Addr} {xs : List Int} (hx : ∀ j u, (xs.map (Value.int .u8))[j]? = some u → w.cell? (x.add j) = some u) (k : Nat) (hk : k < xs.length) : w.cell? (x.add k) = some (.int .u8 xs[k]) :=
  hx k _ (by simp [hk])

set_option maxHeartbeats 1000000 in
theorem length_some (x : Addr) (c : Nat) (xs : List Int) (w : World) (hx : ∀ j u, (xs.map (Value.int .u8))[j]? = some u → w.cell? (x.add j) = some u) (hl : xs.length ≤ 140737488355328) :
    Calls Tryd.prog 20 #[.slice (some x) xs.length c] w fun e w' => ∃ n e', e = .returned (.tuple #[.int .i64 n, .int .i64 e']) ∧ LenIs xs n e' ∧ w = w' := by
  have HX : Hid (∀ j u, (xs.map (Value.int .u8))[j]? = some u → w.cell? (x.add j) = some u) := hx
  clear hx
  obtain ⟨m, hm⟩ : ∃ m, xs.length = m := ⟨_, rfl⟩
  rw [hm] at hl ⊢
  have HM : Hid (xs.length = m) := hm
  clear hm
  go_enter Tryd.func20, Tryd.ntmps20
  go_wp2
  go_loop [8] (fun i => ∃ k : Nat, k ≤ m ∧ k ≤ 8 ∧ i = .int .i64 k ∧ Hid (∀ (j : Nat) y, j < k → xs[j]? = some y → 128 ≤ y)) (fun i => m - (intOf i).toNat)
  case atStart => exact ⟨0, by omega, by omega, rfl, fun j y hj => by omega⟩
  case round =>
    obtain ⟨k, hk, hk8, rfl, HB⟩ := hrel
    by_cases hlt : k < m
    · have hc := cell_at HX.out k (by rw [HM.out]; exact hlt)
      have HK : Hid (xs[k]? = some (xs[k]'(by rw [HM.out]; exact hlt))) := List.getElem?_eq_getElem _
      generalize xs[k]'(by rw [HM.out]; exact hlt) = y at *
      by_cases hy : y < 128
      · by_cases hz : 0 < k ∧ y = 0
        · obtain ⟨hz1, hz2⟩ := hz
          have HZ : Hid (y = 0) := hz2
          clear hz2
          go_wp2_with fail
          refine (ended_no _ _ _ (by omega) HZ.out).mono ?_
          rintro e w1 ⟨rfl, rfl⟩
          go_wp2
          go_ret2
          exact ⟨0, 2, rfl, .inr (.inr ⟨k, y, hk8, HK.out, hy, HB.out, .inl ⟨hz1, HZ.out, rfl, rfl⟩⟩), rfl⟩
        · have HZ : Hid (¬ (0 < k ∧ y = 0)) := hz
          clear hz
          go_wp2_with fail
          refine (ended_yes _ _ _ (by omega) (by omega) (fun ⟨p, q⟩ => HZ.out ⟨by omega, q⟩)).mono ?_
          rintro e w1 ⟨rfl, rfl⟩
          go_wp2
          go_ret2
          exact ⟨(k : Int) + 1, 0, rfl, .inr (.inr ⟨k, y, hk8, HK.out, hy, HB.out, .inr ⟨HZ.out, rfl, rfl⟩⟩), rfl⟩
      · have HB' : ∀ (j : Nat) z, j < k + 1 → xs[j]? = some z → 128 ≤ z := fun j z hj hz => by
          rcases Nat.lt_succ_iff_lt_or_eq.1 hj with e | e
          · exact HB.out j z e hz
          · subst e
            rw [HK.out] at hz
            simp only [Option.some.injEq] at hz
            omega
        have HC : Hid (∀ (j : Nat) z, j < k + 1 → xs[j]? = some z → 128 ≤ z) := HB'
        clear HB'
        by_cases h8 : k = 8
        · have h9 : ((k : Int) + 1 == 9) = true := by simp; omega
          have HE : Hid (k = 8) := h8
          clear h8
          go_wp2
          go_ret2
          exact ⟨0, 2, rfl, .inr (.inl ⟨rfl, rfl, by rw [HM.out]; have := HE.out; omega, fun j y hj hy => HC.out j y (by have := HE.out; omega) hy⟩), rfl⟩
        · go_wp2
          go_round
          case rel => exact ⟨k + 1, by omega, by omega, by go_num, HC⟩
          case measure => simp [intOf]; omega
    · obtain rfl : k = m := by omega
      go_wp2
      go_ret2
      exact ⟨0, 1, rfl, .inl ⟨rfl, rfl, by rw [HM.out]; exact hk8, fun j y hy => HB.out j y (by
        have := HM.out
        by_cases e : j < xs.length
        · omega
        · rw [List.getElem?_eq_none (by omega)] at hy; cases hy) hy⟩, rfl⟩

theorem length_any (ad : Option Addr) (m c : Nat) (xs : List Int) (w : World) (h : Row8 w ad m c xs) (hl : m ≤ 140737488355328) :
    Calls Tryd.prog 20 #[.slice ad m c] w fun e w' => ∃ n e', e = .returned (.tuple #[.int .i64 n, .int .i64 e']) ∧ LenIs xs n e' ∧ w = w' := by
  rcases h with ⟨rfl, ⟨rfl, h0, rfl⟩ | ⟨x, rfl, hx⟩⟩
  · have e : xs = [] := List.eq_nil_of_length_eq_zero h0
    subst e
    clear h0 hl
    rw [List.length_nil]
    go_enter Tryd.func20, Tryd.ntmps20
    go_wp2
    go_loop [8] (fun i => i = .int .i64 0) (fun _ => 0)
    case atStart => rfl
    case round =>
      obtain rfl := hrel
      go_wp2
      go_ret2
      exact ⟨0, 1, rfl, .inl ⟨rfl, rfl, by simp, fun j y hy => by simp at hy⟩, rfl⟩
  · exact length_some x c xs w hx hl

theorem run_size5 (w : World) : (sizeOf (Tryd.prog.elem 24)).run Tryd.prog w = .ok 1 w := by kernel_rfl

theorem addr_add0 (x : Addr) : x.add 0 = x := by simp [Addr.add]

/-- 'b[:r]' of a list of bytes, whatever its address. -/
theorem slice_to (a : Option Addr) (len cap r : Nat) (h : r ≤ cap) (w : World) :
    (Instr.slice 24 (.slice a len cap) none (some (.int .i64 (r : Int))) none).run Tryd.prog w = .ok (.slice a r cap) w := by
  rw [run_slice_h (P := Tryd.prog) w 24 a len cap (by kernel_rfl) .i64 r (by omega) (by omega), run_size5]
  simp only [Result.andThen, sliced, Int.toNat_natCast, Nat.zero_mul, Nat.sub_zero]
  congr 2
  split
  · rfl
  · cases a <;> simp [addr_add0]

set_option maxHeartbeats 1000000 in
theorem get_any (ad : Option Addr) (m c : Nat) (xs : List Int) (w : World) (h : Row8 w ad m c xs) (h8 : Bytes8 xs) (hmc : m ≤ c) (hl : m ≤ 140737488355328) :
    Calls Tryd.prog 12 #[.slice ad m c] w fun e w' => ∃ v n e', e = .returned (.tuple #[.int .u64 v, .int .i64 n, .int .i64 e']) ∧ GetIs xs v n e' ∧ w = w' := by
  have H := length_any ad m c xs w h hl
  go_enter Tryd.func12, Tryd.ntmps12
  go_wp2_with fail
  refine H.mono ?_
  rintro e w1 ⟨n, e', rfl, HL, rfl⟩
  clear H
  by_cases he : e' = 0
  · subst he
    rcases id HL with ⟨f, _⟩ | ⟨f, _⟩ | ⟨k0, x0, q1, q2, q3, q4, ⟨_, _, f, _⟩ | ⟨q5, _, rfl⟩⟩
    · omega
    · omega
    · omega
    have hk0 : k0 < xs.length := by
      by_cases e : k0 < xs.length
      · exact e
      · rw [List.getElem?_eq_none (by omega)] at q2; cases q2
    have hm := h.1
    have hsl : ∀ w : World, (Instr.slice 24 (.slice ad m c) none (some (.int .i64 ((k0 : Int) + 1))) none).run Tryd.prog w = .ok (.slice ad (k0 + 1) c) w := fun w => by
      have := slice_to ad m c (k0 + 1) (by omega) w
      simpa using this
    obtain ⟨x, rfl, hx⟩ : ∃ x, ad = some x ∧ ∀ j u, (xs.map (Value.int .u8))[j]? = some u → w.cell? (x.add j) = some u := by
      rcases h.2 with ⟨_, e, _⟩ | e
      · omega
      · exact e
    have HX : Hid (∀ j u, (xs.map (Value.int .u8))[j]? = some u → w.cell? (x.add j) = some u) := hx
    have HLL : Hid (LenIs xs ((k0 : Int) + 1) 0) := HL
    have HM : Hid (xs.length = m) := hm
    have HK0 : Hid (k0 < xs.length) := hk0
    have H8 : Hid (Bytes8 xs) := h8
    have hkc : k0 + 1 ≤ c := by omega
    clear HL q2 q3 q4 q5 hx hm h8 h hk0
    go_wp2
    go_loop [7, 22] (fun v i => ∃ k : Nat, k ≤ k0 + 1 ∧ i = .int .i64 k ∧ v = .int .u64 (wt (xs.take k))) (fun _ i => k0 + 1 - (intOf i).toNat)
    case atStart => exact ⟨0, by omega, rfl, rfl⟩
    case round =>
      obtain ⟨k, hk, rfl, rfl⟩ := hrel
      by_cases hlt : k < k0 + 1
      · have hlk : k < xs.length := by have := HK0.out; omega
        have hc := cell_at HX.out k hlk
        have HB := H8.out xs[k] (by simp)
        have HS := wt_step xs k hlk (by omega)
        have HSH : Hid (bits .or .u64 (wt (xs.take k)) (IntKind.u64.wrap (xs[k] % 128 * 2 ^ (7 * k))) = wt (xs.take (k + 1))) := HS
        obtain ⟨hb1, hb2⟩ := HB
        clear HS
        generalize wt (xs.take k) = a at *
        generalize xs[k] = y at *
        go_wp2
        go_round
        case rel => exact ⟨k + 1, by omega, by go_num, by rw [← HSH.out]⟩
        case measure => simp [intOf]; omega
      · obtain rfl : k = k0 + 1 := by omega
        go_wp2
        go_ret3
        exact ⟨wt (xs.take (k0 + 1)), (k0 : Int) + 1, 0, rfl, ⟨HLL.out, fun _ => by congr 2, fun f => (f rfl).elim⟩, rfl⟩
  · have hne : (e' == 0) = false := beq_eq_false_iff_ne.2 he
    have HE : Hid (e' ≠ 0) := he
    obtain rfl : n = 0 := by
      rcases HL with ⟨_, f, _⟩ | ⟨_, f, _⟩ | ⟨_, _, _, _, _, _, ⟨_, _, _, f⟩ | ⟨_, f, _⟩⟩
      · exact f
      · exact f
      · exact f
      · exact (he f).elim
    have HLL : Hid (LenIs xs 0 e') := HL
    clear HL he h h8
    go_wp2
    go_ret3
    exact ⟨0, 0, e', rfl, ⟨HLL.out, fun f => (HE.out f).elim, fun _ => rfl⟩, rfl⟩

end Go.Proofs.YtkjjcdkobapedaaDoor
