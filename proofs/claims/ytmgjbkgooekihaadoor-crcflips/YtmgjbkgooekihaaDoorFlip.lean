/- Bits turned over in new memory: the contracts of Flip and of the document's own; of no statement by themselves. -/
import Derived.Test.YtmgjbkgooekihaaDoorLen
namespace Go.Proofs.YtmgjbkgooekihaaDoor
open Go.RowKit

/-- The list with the mask's first i bits turned. -/
def fl (xs : List Nat) (at_ m : Nat) : Nat → List Nat
  | 0 => xs
  | i + 1 => if m / 2 ^ i % 2 = 1 then Crc.flip (fl xs at_ m i) (at_ + i) else fl xs at_ m i

theorem fl_length (xs : List Nat) (at_ m : Nat) : ∀ i, (fl xs at_ m i).length = xs.length
  | 0 => rfl
  | i + 1 => by
    rw [fl]
    split
    · rw [Crc.flip_length, fl_length xs at_ m i]
    · exact fl_length xs at_ m i

theorem fl_byt {xs : List Nat} (h : Byt xs) (at_ m : Nat) : ∀ i, Byt (fl xs at_ m i)
  | 0 => h
  | i + 1 => by
    rw [fl]
    split
    · exact flip_byt (fl_byt h at_ m i) _
    · exact fl_byt h at_ m i

theorem fl_one {xs : List Nat} {at_ m i : Nat} (h : m / 2 ^ i % 2 = 1) : fl xs at_ m (i + 1) = Crc.flip (fl xs at_ m i) (at_ + i) := by rw [fl, if_pos h]
theorem fl_flat {xs : List Nat} {at_ m i : Nat} (h : ¬ m / 2 ^ i % 2 = 1) : fl xs at_ m (i + 1) = fl xs at_ m i := by rw [fl, if_neg h]

/-- Behind its highest bit a mask turns nothing. -/
theorem fl_end {xs : List Nat} {at_ m L : Nat} (h : m < 2 ^ L) : ∀ k, fl xs at_ m (L + k) = fl xs at_ m L
  | 0 => rfl
  | k + 1 => by
    have e : m / 2 ^ (L + k) = 0 := Nat.div_eq_of_lt (Nat.lt_of_lt_of_le h (Nat.pow_le_pow_right (by decide) (by omega)))
    rw [← Nat.add_assoc, fl_flat (by rw [e]; decide), fl_end h k]

theorem splice_all (n : Nat) (v : Value) (cs : List Value) (h : cs.length = n) : splice (List.replicate n v) 0 cs = cs := by
  subst h
  simp [splice]

theorem size5 : (Tryd.prog.info? 5).map (·.size) = some 1 := by kernel_rfl

theorem shr32 (m i : Nat) : ((m : Int) / 2 ^ i) = ((m / 2 ^ i : Nat) : Int) := by simp

/-- The bit that is turned, in a row that fills its block. -/
theorem turn_blk {w : World} {g : Nat} {l : List Nat} (hb : w.heap[g]? = some (.cells (cells8 (up l)).toArray 5 (0, 0))) (p : Nat) (hp : p < l.length) :
    w.cell? ⟨g, p, none⟩ = some (.int .u8 (l[p] : Nat)) ∧ w.frozen? ⟨g, p, none⟩ = false ∧ ∀ z : Nat, (w.setCell ⟨g, p, none⟩ (.int .u8 (z : Int))).heap[g]? = some (.cells (cells8 (up (l.set p z))).toArray 5 (0, 0)) := by
  refine ⟨?_, by simp [World.frozen?, hb], fun z => ?_⟩
  · rw [cell_of_row w g p _ 5 (0, 0) hb]
    simp [cells8, up, hp]
  · rw [blk_setk hb, ← up_set]
    simp [cells8, List.map_set]

set_option maxHeartbeats 4000000 in
theorem flip_yes (a : Option Addr) (n c : Nat) (xs : List Nat) (at_ m L : Nat) (w : World) (hx : Row8 w a n c (up xs)) (hb : Byt xs) (hn : n ≤ 140737488351232) (hm : m < 4294967296) (hL : Bits m L) (hl : L ≤ 32) (ha : at_ + L ≤ 8 * n) :
    Calls Tryd.prog 18 #[.slice a n c, .int .i64 at_, .int .u32 m] w fun e w' => e = .returned (.tuple #[.slice (some ⟨w.heap.size, 0, none⟩) n n, .int .i64 0]) ∧ w'.heap[w.heap.size]? = some (.cells (cells8 (up (fl xs at_ m 32))).toArray 5 (0, 0)) ∧ Chg (fun _ => False) w w' := by
  have hlen : xs.length = n := by rw [← up_length]; exact hx.1
  have HL : Hid (Bits m L) := hL
  have HE : Hid (fl xs at_ m 32 = fl xs at_ m L) := by
    have := fl_end (xs := xs) (at_ := at_) hL.1 (32 - L)
    rw [show L + (32 - L) = 32 by omega] at this
    exact this
  clear hL
  go_enter Tryd.func18, Tryd.ntmps18
  go_wp2_with fail
  refine (len32_any m w hm).mono ?_
  rintro e w1 ⟨L1, rfl, hl1, hB1, rfl⟩
  obtain rfl := hB1.unique HL.out
  have hmk := make8 n (by omega) w
  have R0 := heap_alloc_last w (.cells (cells8 (up (List.replicate n 0))).toArray 5)
  have c0 := chg_one w (.cells (cells8 (up (List.replicate n 0))).toArray 5)
  have hz : cells8 (up (List.replicate n 0)) = List.replicate n (Value.int .u8 0) := by simp [cells8, up]
  rw [hz] at hmk R0 c0
  have hx1 := row8_chg hx c0
  clear hB1 hz
  generalize hA : (List.replicate n (Value.int .u8 0)).toArray = A at *
  have HA : Hid ((List.replicate n (Value.int .u8 0)).toArray = A) := hA
  clear hA
  have hbl : Below w.heap.size w (w.alloc (.cells A 5)) := c0.below (Nat.le_refl _) (fun _ f => f.elim)
  generalize w.alloc (.cells A 5) = w1 at *
  have HR : Hid (w1.heap[w.heap.size]? = some (.cells (List.replicate n (Value.int .u8 0)).toArray 5 (0, 0))) := by
    show _ = _
    rw [HA.out]
    exact R0
  have HS : Hid (0 < (cells8 (up xs)).length → ∃ ad, a = some ad ∧ ∀ j v, (cells8 (up xs))[j]? = some v → w1.cell? (ad.add j) = some v) := fun hp => by
    rcases hx1.2 with ⟨_, e, _⟩ | ⟨x, e, hxx⟩
    · simp [cells8, up, hlen, e] at hp
    · exact ⟨x, e, hxx⟩
  have HLn : Hid (xs.length = n) := hlen
  clear R0 c0 hx hx1 hlen
  go_wp2_with (refine wpList_copy_splice rfl (.tmp 32) (.tmp 33) 22 22 rfl 5 Tryd.underlying22 size5 _ _ _ _ _ _ rfl rfl w.heap.size 0 _ 5 HR.out (cells8 (up xs)) (by simp [cells8, up, HLn.out]) (fun hp => ⟨rfl, HS.out hp⟩) (by simp [cells8, up, HLn.out]) (oneCells _) w.heap.size w hbl (Nat.le_refl _) ?_)
  intro w2 h2 hb2
  have R2 : Hid (w2.heap[w.heap.size]? = some (.cells (cells8 (up xs)).toArray 5 (0, 0))) := by
    show _ = _
    have := h2.out
    rw [splice_all n _ (cells8 (up xs)) (by simp [cells8, up, HLn.out])] at this
    exact this
  have C2 : Hid (Chg (fun _ => False) w w2) := (Chg.of_below hb2).mono (fun k f => .inr f)
  clear h2 HS HR hbl hb2 hmk HA
  go_wp2_with fail
  refine (len32_any m w2 hm).mono ?_
  rintro e w3 ⟨L1, rfl, hl1, hB1, rfl⟩
  obtain rfl := hB1.unique HL.out
  clear hB1
  go_wp2_with fail
  go_loopw [37] (fun j wr => ∃ i : Nat, i ≤ L1 ∧ j = .int .i64 i ∧ Hid (wr.heap[w.heap.size]? = some (.cells (cells8 (up (fl xs at_ m i))).toArray 5 (0, 0))) ∧ Hid (Chg (fun _ => False) w wr)) (fun j _ => L1 - (intOf j).toNat)
  case atStart => exact ⟨0, by omega, rfl, R2, C2⟩
  case round =>
    clear R2 C2
    obtain ⟨i, hi, rfl, HR, HC⟩ := hrel
    by_cases hlt : i < L1
    · have hsh := shr32 m i
      obtain ⟨q, hq⟩ : ∃ q, m / 2 ^ i = q := ⟨_, rfl⟩
      rw [hq] at hsh
      by_cases ho : q % 2 = 1
      · obtain ⟨K, hK⟩ : ∃ K : Nat, at_ + i = K := ⟨_, rfl⟩
        have hKi : (at_ : Int) + i = (K : Int) := by omega
        obtain ⟨p, hp⟩ : ∃ p : Nat, K / 8 = p := ⟨_, rfl⟩
        obtain ⟨r, hr⟩ : ∃ r : Nat, K % 8 = r := ⟨_, rfl⟩
        have hp1 : (K : Int) / 8 = (p : Int) := by omega
        have hr1 : (K : Int) % 8 = (r : Int) := by omega
        have hpn : p < n := by omega
        have hr8 : r < 8 := by omega
        have hpl : p < (fl xs at_ m i).length := by rw [fl_length, HLn.out]; exact hpn
        have hw8 := wpow8 hr8
        have hy8 : 2 ^ r < 256 := Nat.pow_lt_pow_right (a := 2) (n := 8) (by decide) hr8
        obtain ⟨hcl, hfr, hset⟩ := turn_blk HR.out p hpl
        have hz : (fl xs at_ m i)[p] < 256 := fl_byt hb at_ m i _ (List.getElem_mem _)
        have hxx := u8xor _ _ hz hy8
        have HF : Hid (fl xs at_ m (i + 1) = (fl xs at_ m i).set p ((fl xs at_ m i)[p] ^^^ 2 ^ r)) := by
          show _ = _
          rw [fl_one (by rw [hq]; exact ho)]
          subst hp hr
          rw [hK]
          exact flip_is _ K hpl
        have HR2 : Hid ((wr.setCell ⟨w.heap.size, p, none⟩ (.int .u8 (((fl xs at_ m i)[p] ^^^ 2 ^ r : Nat) : Int))).heap[w.heap.size]? = some (.cells (cells8 (up (fl xs at_ m (i + 1)))).toArray 5 (0, 0))) := by
          show _ = _
          rw [HF.out]
          exact hset _
        have HC2 : Hid (Chg (fun _ => False) w (wr.setCell ⟨w.heap.size, p, none⟩ (.int .u8 (((fl xs at_ m i)[p] ^^^ 2 ^ r : Nat) : Int)))) := HC.out.setCell (.inr (Nat.le_refl _)) _
        clear hset HF HR HC hK hp hr hq
        generalize (fl xs at_ m i)[p] ^^^ 2 ^ r = t at *
        generalize (fl xs at_ m i)[p] = z at *
        generalize 2 ^ r = y at *
        go_wp2_with fail
        go_region
        go_wp2
        go_roundw
        case rel => exact ⟨i + 1, by omega, by go_num, HR2, HC2.out.drew⟩
        case measure => simp [intOf]; omega
      · have HR2 : Hid (wr.heap[w.heap.size]? = some (.cells (cells8 (up (fl xs at_ m (i + 1)))).toArray 5 (0, 0))) := by
          show _ = _
          rw [fl_flat (by rw [hq]; exact ho)]
          exact HR.out
        clear HR hq
        go_wp2
        go_roundw
        case rel => exact ⟨i + 1, by omega, by go_num, HR2, HC⟩
        case measure => simp [intOf]; omega
    · obtain rfl : i = L1 := by omega
      have HR2 : Hid (wr.heap[w.heap.size]? = some (.cells (cells8 (up (fl xs at_ m 32))).toArray 5 (0, 0))) := by
        show _ = _
        rw [HE.out]
        exact HR.out
      clear HR
      go_wp2
      go_ret2
      exact ⟨rfl, HR2.out, HC.out⟩

set_option maxHeartbeats 1000000 in
theorem flip_no (a : Option Addr) (n c : Nat) (at_ : Int) (m L : Nat) (w : World) (hn : n ≤ 140737488351232) (hm : m < 4294967296) (hL : Bits m L) (h0 : -9223372036854775808 ≤ at_) (h1 : at_ ≤ 9223372036854775807) (ha : ¬ (0 ≤ at_ ∧ at_ + L ≤ 8 * n)) :
    Calls Tryd.prog 18 #[.slice a n c, .int .i64 at_, .int .u32 m] w fun e w' => e = .returned (.tuple #[.slice none 0 0, .int .i64 7]) ∧ w = w' := by
  by_cases ha1 : at_ < 0
  · clear ha
    go_enter Tryd.func18, Tryd.ntmps18
    go_wp2
    go_ret2
    exact ⟨rfl, rfl⟩
  · by_cases ha2 : 8 * (n : Int) < at_
    · clear ha
      go_enter Tryd.func18, Tryd.ntmps18
      go_wp2
      go_ret2
      exact ⟨rfl, rfl⟩
    · have ha3 : 8 * (n : Int) - at_ < L := by omega
      have HL : Hid (Bits m L) := hL
      clear ha hL
      go_enter Tryd.func18, Tryd.ntmps18
      go_wp2_with fail
      refine (len32_any m w hm).mono ?_
      rintro e w1 ⟨L1, rfl, hl1, hB1, rfl⟩
      obtain rfl := hB1.unique HL.out
      clear hB1
      go_wp2
      go_ret2
      exact ⟨rfl, rfl⟩
end Go.Proofs.YtmgjbkgooekihaaDoor
