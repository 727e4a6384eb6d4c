/- Bits turned over: the contract of burst; of no statement by itself. -/
import Derived.Test.YtmgjbkgooekihaaDoorStr
namespace Go.Proofs.YtmgjbkgooekihaaDoor
open Go.RowKit

/-- One byte of a row of the call's own is written. -/
theorem own_set {w : World} {B n : Nat} {v : Value} {xs : List Int} (h : w.ownsRow B 5 1 v n (cells8 xs)) (k : Nat) (hk : k < n) :
    ∃ g cap, v = .slice (some ⟨g, 0, none⟩) n cap ∧ B ≤ g ∧ (∀ y, xs[k]? = some y → w.cell? ⟨g, k, none⟩ = some (.int .u8 y)) ∧ w.frozen? ⟨g, k, none⟩ = false ∧ ∀ y, (w.setCell ⟨g, k, none⟩ (.int .u8 y)).ownsRow B 5 1 v n (cells8 (xs.set k y)) := by
  have h1 := h.1
  rcases h.2 with ⟨rfl, e⟩ | ⟨g, cap, cur, rfl, hB, hg, hnc, hcm, hcs, ht⟩
  · omega
  · refine ⟨g, cap, rfl, hB, fun y hy => ?_, by simp [World.frozen?, hg], fun y => ⟨by simpa [cells8] using h1, .inr ⟨g, cap, cur.setIfInBounds k (.int .u8 y), rfl, hB, ?_, hnc, hcm, by simpa using hcs, ?_⟩⟩⟩
    · have := h.cells (g := g) rfl k (.int .u8 y) (by simp [cells8, hy])
      have hadd : (⟨g, 0, none⟩ : Addr).add k = ⟨g, k, none⟩ := by unfold Addr.add; split <;> simp_all
      rw [hadd] at this
      exact this
    · have := blk_setk (l := cur.toList) (by simpa using hg) k (.int .u8 y)
      rw [this]
      congr 2
      apply Array.toList_inj.1
      simp
    · rw [Nat.mul_one] at ht ⊢
      rw [Array.toList_setIfInBounds, List.take_set, ht]
      simp [cells8, List.map_set]

theorem flip_byt {l : List Nat} (h : Byt l) (k : Nat) : Byt (Crc.flip l k) := fun x hx => by
  rcases List.mem_or_eq_of_mem_set hx with e | e
  · exact h x e
  · rw [e]
    refine Nat.xor_lt_two_pow (n := 8) ?_ (Nat.pow_lt_pow_right (by decide) (Nat.mod_lt _ (by decide)))
    by_cases hk : k / 8 < l.length
    · rw [List.getD_eq_getElem?_getD, List.getElem?_eq_getElem hk]
      exact h _ (List.getElem_mem _)
    · rw [List.getD_eq_getElem?_getD, List.getElem?_eq_none (by omega)]
      decide

/-- What bursts do to sums: the bits that were turned, as a number, from the place on. -/
structure Turned (xs l : List Nat) (at_ i M : Nat) : Prop where
  len : l.length = xs.length
  byt : Byt l
  small : M < 2 ^ i
  raw : ∀ P s, Crc.raw P s l = Crc.raw P s xs ^^^ Crc.itr P (8 * xs.length - at_) M

theorem Turned.zero (xs : List Nat) (h : Byt xs) (at_ : Nat) : Turned xs xs at_ 0 0 := ⟨rfl, h, by decide, fun P s => by rw [Crc.itr_zero, Nat.xor_zero]⟩

theorem Turned.skip {xs l : List Nat} {at_ i M : Nat} (h : Turned xs l at_ i M) : Turned xs l at_ (i + 1) M := ⟨h.len, h.byt, Nat.lt_of_lt_of_le h.small (Nat.pow_le_pow_right (by decide) (by omega)), h.raw⟩

theorem Turned.turn {xs l : List Nat} {at_ i M : Nat} (h : Turned xs l at_ i M) (hk : at_ + i < 8 * xs.length) : Turned xs (Crc.flip l (at_ + i)) at_ (i + 1) (M ^^^ 2 ^ i) :=
  ⟨by rw [Crc.flip_length, h.len], flip_byt h.byt _, Nat.xor_lt_two_pow (Nat.lt_of_lt_of_le h.small (Nat.pow_le_pow_right (by decide) (by omega))) (Nat.pow_lt_pow_right (by decide) (by omega)), fun P s => by
    rw [Crc.raw_flip_from P s l at_ i (by rw [h.len]; exact hk), h.raw, h.len, Crc.itr_xor, Nat.xor_assoc]⟩

theorem xor_pow_ne {M i : Nat} (h : M < 2 ^ i) : M ^^^ 2 ^ i ≠ 0 := fun e => by
  have := Crc.xor_eq_zero e
  omega

theorem flip_is (l : List Nat) (k : Nat) (hk : k / 8 < l.length) : Crc.flip l k = l.set (k / 8) (l[k / 8] ^^^ 2 ^ (k % 8)) := by
  unfold Crc.flip
  rw [List.getD_eq_getElem?_getD, List.getElem?_eq_getElem hk]
  rfl

theorem up_set (l : List Nat) (k y : Nat) : (up l).set k (y : Int) = up (l.set k y) := by simp [up, List.map_set]

theorem wpow8 {r : Nat} (hr : r < 8) : IntKind.u8.wrap ((2 : Int) ^ r) = ((2 ^ r : Nat) : Int) := by
  have h : 2 ^ r < 256 := Nat.pow_lt_pow_right (a := 2) (n := 8) (by decide) hr
  have e : (2 : Int) ^ r = ((2 ^ r : Nat) : Int) := by simp
  have e2 : IntKind.u8.wrap ((2 : Int) ^ r) = (2 : Int) ^ r % 256 := by simp [IntKind.wrap, IntKind.signed, IntKind.bits]
  rw [e2, e]
  generalize 2 ^ r = x at *
  omega

theorem bit_at (m i : Nat) (hm : m < 18446744073709551616) : bits .and .u64 ((m : Int) / 2 ^ i) 1 = ((m / 2 ^ i % 2 : Nat) : Int) := by
  have e : ((m : Int) / 2 ^ i) = ((m / 2 ^ i : Nat) : Int) := by simp
  rw [e, show (1 : Int) = ((1 : Nat) : Int) from rfl, u64_and_nat _ 1 (Nat.lt_of_le_of_lt (Nat.div_le_self _ _) hm) (by decide)]
  congr 1
  exact Nat.and_one_is_mod _

set_option maxHeartbeats 2000000 in
theorem burst_any (a : Option Addr) (n c : Nat) (xs : List Nat) (at_ m W : Nat) (w : World) (hx : Row8 w a n c (up xs)) (hb : Byt xs) (hn : n ≤ 140737488351232) (ha : at_ ≤ 8 * n) (hm : m < 18446744073709551616) (hW : W ≤ 64) :
    Calls Tryd.prog 12 #[.slice a n c, .int .i64 at_, .int .u64 m, .int .i64 W] w fun e w' => ∃ ad k l q M, e = .returned (.tuple #[.slice ad n k, .int .i64 (q : Nat)]) ∧ Row8 w' ad n k (up l) ∧ Turned xs l at_ W M ∧ (q = 0 ↔ M = 0) ∧ q ≤ W ∧ Chg (fun _ => False) w w' := by
  obtain ⟨i0, hi, hz0, hz1, hz2⟩ := info_parts info5
  have hlen : xs.length = n := by rw [← up_length]; exact hx.1
  have h0 := own_empty w
  have hc0 := chg_one w (.cells #[] 5)
  have hx0 := row8_chg hx hc0
  clear hx
  go_enter Tryd.func12, Tryd.ntmps12
  go_wp2_with (at_builtin; refine wpList_append_moved rfl _ _ 22 rfl w.heap.size 5 i0 (.int .u8 0) 1 1 Tryd.underlying22 hi hz0 hz1 hz2 rfl (by decide) _ 0 (cells8 []) rfl a n c rfl (cells8 (up xs)) h0 hx0.src (oneCells (up xs)) (by unfold maxLen; omega) (by omega) hc0.size ?_)
  intro v1 w1 ho1 hg1 _
  have hc1 : Chg (fun _ => False) w w1 := hc0.grown hg1 (fun k e => .inr ((h0.lt k e).1))
  rw [cells8_append, List.nil_append] at ho1
  obtain ⟨ad, ac, rfl, -, -⟩ := own_row8c ho1
  have hO : Hid (w1.ownsRow w.heap.size 5 1 (.slice ad n ac) n (cells8 (up xs))) := by show w1.ownsRow _ _ _ _ _ _; simpa using ho1
  have HB : Hid (Byt xs) := hb
  have HL : Hid (xs.length = n) := hlen
  clear hg1 h0 hc0 hx0 ho1 hb hlen
  go_wp2_with fail
  go_loopw [11, 12] (fun q j wr => ∃ (i : Nat) (k : Nat) (l : List Nat) (M : Nat), i ≤ W ∧ j = .int .i64 i ∧ q = .int .i64 k ∧ k ≤ i ∧ Hid (k = 0 ↔ M = 0) ∧ Hid (Turned xs l at_ i M) ∧ Hid (wr.ownsRow w.heap.size 5 1 (.slice ad n ac) n (cells8 (up l))) ∧ Chg (fun _ => False) w wr) (fun _ j _ => W - (intOf j).toNat)
  case atStart => exact ⟨0, 0, xs, 0, by omega, rfl, rfl, by omega, ⟨fun _ => rfl, fun _ => rfl⟩, Turned.zero xs HB.out at_, hO, hc1⟩
  case round =>
    clear hO hc1
    obtain ⟨i, k, l, M, hi1, rfl, rfl, hki, HQ, HU, HO, hc⟩ := hrel
    by_cases hlt : i < W
    · have hbit := bit_at m i hm
      obtain ⟨K, hK⟩ : ∃ K : Nat, at_ + i = K := ⟨_, rfl⟩
      have hKi : (at_ : Int) + i = (K : Int) := by omega
      by_cases hone : m / 2 ^ i % 2 = 1 ∧ K < 8 * n
      · obtain ⟨ho1, ho2⟩ := hone
        rw [ho1] at hbit
        obtain ⟨p, hp⟩ : ∃ p : Nat, K / 8 = p := ⟨_, rfl⟩
        obtain ⟨r, hr⟩ : ∃ r : Nat, K % 8 = r := ⟨_, rfl⟩
        have hp1 : (K : Int) / 8 = (p : Int) := by omega
        have hr1 : (K : Int) % 8 = (r : Int) := by omega
        have hpn : p < n := by omega
        have hr8 : r < 8 := by omega
        have hpl : p < l.length := by rw [HU.out.len, HL.out]; exact hpn
        have hw8 := wpow8 hr8
        have hy8 : 2 ^ r < 256 := Nat.pow_lt_pow_right (a := 2) (n := 8) (by decide) hr8
        obtain ⟨g, cap, hv, hBg, hcell, hfr, hset⟩ := own_set HO.out p hpn
        simp only [Value.slice.injEq, true_and] at hv
        obtain ⟨rfl, rfl⟩ := hv
        have hz : l[p] < 256 := HU.out.byt _ (List.getElem_mem _)
        have hcl := hcell (l[p] : Nat) (by simp [up, hpl])
        have hxx := u8xor _ _ hz hy8
        have HF : Hid (Crc.flip l (at_ + i) = l.set p (l[p] ^^^ 2 ^ r)) := by
          show _ = _
          subst hp hr
          rw [hK]
          exact flip_is l K hpl
        have HO2 : Hid ((wr.setCell ⟨g, p, none⟩ (.int .u8 ((l[p] ^^^ 2 ^ r : Nat) : Int))).ownsRow w.heap.size 5 1 (.slice (some ⟨g, 0, none⟩) n ac) n (cells8 (up (Crc.flip l (at_ + i))))) := by
          show World.ownsRow _ _ _ _ _ _ _
          rw [HF.out, ← up_set]
          exact hset _
        have HC2 : Hid (Chg (fun _ => False) w (wr.setCell ⟨g, p, none⟩ (.int .u8 ((l[p] ^^^ 2 ^ r : Nat) : Int)))) := hc.setCell (.inr hBg) _
        have HU2 : Hid (Turned xs (Crc.flip l (at_ + i)) at_ (i + 1) (M ^^^ 2 ^ i)) := HU.out.turn (by rw [HL.out, hK]; exact ho2)
        have HQ2 : Hid (k + 1 = 0 ↔ M ^^^ 2 ^ i = 0) := ⟨fun e => by omega, fun e => (xor_pow_ne HU.out.small e).elim⟩
        clear hcell hset HO HU HQ HF ho1 hK hp hr
        generalize l[p] ^^^ 2 ^ r = t at *
        generalize l[p] = z at *
        generalize 2 ^ r = y at *
        go_wp2_with fail
        go_region
        go_wp2
        go_roundw
        case rel => exact ⟨i + 1, k + 1, _, _, by omega, by go_num, by go_num, by omega, HQ2, HU2, HO2, HC2.out.drew⟩
        case measure => simp [intOf]; omega
      · have HU2 : Hid (Turned xs l at_ (i + 1) M) := HU.out.skip
        by_cases h1 : m / 2 ^ i % 2 = 1
        · rw [h1] at hbit
          have hK2 : ¬ K < 8 * n := fun h => hone ⟨h1, h⟩
          clear hone HU h1 hK
          go_wp2
          go_roundw
          case rel => exact ⟨i + 1, k, l, M, by omega, by go_num, rfl, by omega, HQ, HU2, HO, hc⟩
          case measure => simp [intOf]; omega
        · have h0 : m / 2 ^ i % 2 = 0 := by omega
          rw [h0] at hbit
          clear hone HU h1 h0 hK
          go_wp2
          go_roundw
          case rel => exact ⟨i + 1, k, l, M, by omega, by go_num, rfl, by omega, HQ, HU2, HO, hc⟩
          case measure => simp [intOf]; omega
    · obtain rfl : i = W := by omega
      obtain ⟨ad2, ac2, hv, hrow, -⟩ := own_row8c HO.out
      simp only [Value.slice.injEq, true_and] at hv
      obtain ⟨rfl, rfl⟩ := hv
      have HR : Hid (Row8 wr ad n ac (up l)) := hrow
      clear HO hrow
      go_wp2
      go_ret2
      exact ⟨ad, ac, l, k, M, rfl, HR.out, HU.out, HQ.out, hki, hc⟩
end Go.Proofs.YtmgjbkgooekihaaDoor
