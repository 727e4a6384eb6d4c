/- The contracts of joinable, patchable, Join32, Join64, Patch32, Patch64; of no statement by themselves. -/
import Derived.Test.YtmgjbkgooekihaaDoorZeros
namespace Go.Proofs.YtmgjbkgooekihaaDoor
open Go.RowKit

theorem ret_bool {b c : Bool} (h : b = c) : Ending.returned (.bool b) = .returned (.bool c) := by rw [h]

theorem joinable_yes (n : Nat) (w : World) (h : n ≤ 1099511627776) : Calls Tryd.prog 31 #[.int .i64 n] w fun e w' => e = .returned (.bool true) ∧ w = w' := by
  go_enter Tryd.func31, Tryd.ntmps31
  go_wp2
  go_ret
  exact ⟨ret_bool (decide_eq_true (by omega)), rfl⟩

theorem joinable_no (n : Int) (w : World) (h : n < 0 ∨ 1099511627776 < n) : Calls Tryd.prog 31 #[.int .i64 n] w fun e w' => e = .returned (.bool false) ∧ w = w' := by
  rcases h with h | h
  · go_enter Tryd.func31, Tryd.ntmps31
    go_wp2
    go_ret
    exact ⟨rfl, rfl⟩
  · go_enter Tryd.func31, Tryd.ntmps31
    go_wp2
    go_ret
    exact ⟨ret_bool (decide_eq_false (by omega)), rfl⟩

theorem patchable_yes (n off k : Nat) (a b : Option Addr) (c d : Nat) (w : World) (h : n ≤ 1099511627776) (ho : off + k ≤ n) :
    Calls Tryd.prog 25 #[.int .i64 n, .int .i64 off, .slice a k c, .slice b k d] w fun e w' => e = .returned (.bool true) ∧ w = w' := by
  go_enter Tryd.func25, Tryd.ntmps25
  go_wp2_with fail
  refine (joinable_yes n w h).mono ?_
  rintro e w1 ⟨rfl, rfl⟩
  go_wp2
  go_ret
  exact ⟨ret_bool (decide_eq_true (by omega)), rfl⟩

/-- What is patched: a place that is there, and as many bytes as there were. -/
def Fits (n off : Int) (k l : Nat) : Prop := 0 ≤ n ∧ n ≤ 1099511627776 ∧ 0 ≤ off ∧ k = l ∧ off + k ≤ n

theorem patchable_no (n off : Int) (k l : Nat) (a b : Option Addr) (c d : Nat) (w : World) (h : ¬ Fits n off k l) (o0 : off ≤ 9223372036854775807) (hk : k ≤ 140737488355328) (hl : l ≤ 140737488355328) :
    Calls Tryd.prog 25 #[.int .i64 n, .int .i64 off, .slice a k c, .slice b l d] w fun e w' => e = .returned (.bool false) ∧ w = w' := by
  unfold Fits at h
  by_cases h1 : n < 0 ∨ 1099511627776 < n
  · clear h
    go_enter Tryd.func25, Tryd.ntmps25
    go_wp2_with fail
    refine (joinable_no n w h1).mono ?_
    rintro e w1 ⟨rfl, rfl⟩
    clear h1
    go_wp2
    go_ret
    exact ⟨rfl, rfl⟩
  · obtain ⟨N, rfl⟩ : ∃ N : Nat, n = N := ⟨n.toNat, by omega⟩
    have hN : N ≤ 1099511627776 := by omega
    by_cases h2 : off < 0
    · clear h h1
      go_enter Tryd.func25, Tryd.ntmps25
      go_wp2_with fail
      refine (joinable_yes N w hN).mono ?_
      rintro e w1 ⟨rfl, rfl⟩
      go_wp2
      go_ret
      exact ⟨rfl, rfl⟩
    · by_cases h3 : k = l
      · have h4 : (N : Int) < off + k := by omega
        clear h h1
        subst h3
        have h5 : ¬ off ≤ (N : Int) - k := by omega
        go_enter Tryd.func25, Tryd.ntmps25
        go_wp2_with fail
        refine (joinable_yes N w hN).mono ?_
        rintro e w1 ⟨rfl, rfl⟩
        go_wp2
        go_ret
        exact ⟨ret_bool (decide_eq_false (by omega)), rfl⟩
      · have hb : ((k : Int) != (l : Int)) = true := bne_iff_ne.2 (by omega)
        clear h h1
        go_enter Tryd.func25, Tryd.ntmps25
        go_wp2_with fail
        refine (joinable_yes N w hN).mono ?_
        rintro e w1 ⟨rfl, rfl⟩
        go_wp2
        go_ret
        exact ⟨rfl, rfl⟩

theorem u8xor (a b : Nat) (ha : a < 256) (hb : b < 256) : bits .xor .u8 (a : Int) (b : Int) = ((a ^^^ b : Nat) : Int) := u8_xor_nat a b ha hb

/-- What was turned. -/
def diff (x y : List Nat) : List Nat := List.zipWith (· ^^^ ·) x y

theorem diff_byt {x y : List Nat} (hx : Byt x) (hy : Byt y) : Byt (diff x y) := fun z hz => by
  obtain ⟨i, hi, rfl⟩ := List.mem_iff_getElem.1 hz
  simp only [diff, List.getElem_zipWith]
  exact Nat.xor_lt_two_pow (n := 8) (hx.at _ _) (hy.at _ _)

theorem diff_length {x y : List Nat} {k : Nat} (hx : x.length = k) (hy : y.length = k) : (diff x y).length = k := by simp [diff, hx, hy]

theorem join32_yes (a b n : Nat) (w : World) (hT : Tab w) (ha : a < 4294967296) (hb : b < 4294967296) (hn : n ≤ 1099511627776) :
    Calls Tryd.prog 21 #[.int .u32 a, .int .u32 b, .int .i64 n] w fun e w' => e = .returned (.tuple #[.int .u32 (Crc.itr Crc.P32 (8 * n) a ^^^ b : Nat), .int .i64 0]) ∧ Chg (fun _ => False) w w' := by
  have hx := xor32 _ b (Crc.itr_lt (w := 32) Crc.p32_lt (8 * n) ha) hb
  go_enter Tryd.func21, Tryd.ntmps21
  go_wp2_with fail
  refine (joinable_yes n w hn).mono ?_
  rintro e w1 ⟨rfl, rfl⟩
  go_wp2_with fail
  refine (zeros32_any a n w hT ha (by omega)).mono ?_
  rintro e w1 ⟨rfl, hc⟩
  clear hT
  generalize hz : Crc.itr Crc.P32 (8 * n) a = z at *
  have HZ : Hid (Crc.itr Crc.P32 (8 * n) a = z) := hz
  clear hz
  go_wp2
  go_ret2
  exact ⟨by rw [HZ.out]; rfl, hc⟩

theorem join32_no (a b : Nat) (n : Int) (w : World) (h : n < 0 ∨ 1099511627776 < n) :
    Calls Tryd.prog 21 #[.int .u32 a, .int .u32 b, .int .i64 n] w fun e w' => e = .returned (.tuple #[.int .u32 0, .int .i64 7]) ∧ w = w' := by
  go_enter Tryd.func21, Tryd.ntmps21
  go_wp2_with fail
  refine (joinable_no n w h).mono ?_
  rintro e w1 ⟨rfl, rfl⟩
  clear h
  go_wp2
  go_ret2
  exact ⟨rfl, rfl⟩

theorem patch32_no (s : Nat) (n off : Int) (k l : Nat) (a b : Option Addr) (c d : Nat) (w : World) (h : ¬ Fits n off k l) (o0 : off ≤ 9223372036854775807) (hk : k ≤ 140737488355328) (hl : l ≤ 140737488355328) :
    Calls Tryd.prog 13 #[.int .u32 s, .int .i64 n, .int .i64 off, .slice a k c, .slice b l d] w fun e w' => e = .returned (.tuple #[.int .u32 0, .int .i64 7]) ∧ w = w' := by
  go_enter Tryd.func13, Tryd.ntmps13
  go_wp2_with fail
  refine (patchable_no n off k l a b c d w h o0 hk hl).mono ?_
  rintro e w1 ⟨rfl, rfl⟩
  clear h
  go_wp2
  go_ret2
  exact ⟨rfl, rfl⟩

theorem raw32_diff (x y : List Nat) (j : Nat) (hx : j < x.length) (hy : j < y.length) : Crc.put Crc.P32 (Crc.raw Crc.P32 0 ((diff x y).take j)) (x[j] ^^^ y[j]) = Crc.raw Crc.P32 0 ((diff x y).take (j + 1)) := by
  have hd : j < (diff x y).length := by simp [diff]; omega
  rw [← raw32_take 0 (diff x y) j hd]
  simp [diff]

set_option maxHeartbeats 1000000 in
theorem patch32_some (s n off k : Nat) (x y : Addr) (c d : Nat) (xs ys : List Nat) (w : World) (HT : Hid (Tab w)) (hs : s < 4294967296)
    (HX : Hid (∀ j u, ((up xs).map (Value.int .u8))[j]? = some u → w.cell? (x.add j) = some u)) (HY : Hid (∀ j u, ((up ys).map (Value.int .u8))[j]? = some u → w.cell? (y.add j) = some u))
    (HL : Hid (xs.length = k)) (HM : Hid (ys.length = k)) (H8 : Hid (Byt xs)) (H9 : Hid (Byt ys)) (hn : n ≤ 1099511627776) (ho : off + k ≤ n) :
    Calls Tryd.prog 13 #[.int .u32 s, .int .i64 n, .int .i64 off, .slice (some x) k c, .slice (some y) k d] w fun e w' => e = .returned (.tuple #[.int .u32 (s ^^^ Crc.itr Crc.P32 (8 * (n - off - k)) (Crc.raw Crc.P32 0 (diff xs ys)) : Nat), .int .i64 0]) ∧ Chg (fun _ => False) w w' := by
  go_enter Tryd.func13, Tryd.ntmps13
  go_wp2_with fail
  refine (patchable_yes n off k _ _ c d w hn ho).mono ?_
  rintro e w1 ⟨rfl, rfl⟩
  go_wp2_with fail
  go_loop [12, 23] (fun z i => ∃ j : Nat, j ≤ k ∧ i = .int .i64 j ∧ z = .int .u32 (Crc.raw Crc.P32 0 ((diff xs ys).take j) : Nat)) (fun _ i => k - (intOf i).toNat)
  case atStart => exact ⟨0, by omega, rfl, rfl⟩
  case round =>
    obtain ⟨j, hj, rfl, rfl⟩ := hrel
    have hq : Crc.raw Crc.P32 0 ((diff xs ys).take j) < 4294967296 := raw32_lt ((diff_byt H8.out H9.out).take j) (by decide)
    by_cases hlt : j < k
    · have hx1 : j < xs.length := by rw [HL.out]; exact hlt
      have hy1 : j < ys.length := by rw [HM.out]; exact hlt
      have c1 := cellN HX.out j hx1
      have c2 := cellN HY.out j hy1
      have b1 := H8.out.at j hx1
      have b2 := H9.out.at j hy1
      have hxx := u8xor _ _ b1 b2
      have hxb : xs[j] ^^^ ys[j] < 256 := Nat.xor_lt_two_pow (n := 8) b1 b2
      have HP : Hid (Crc.put Crc.P32 (Crc.raw Crc.P32 0 ((diff xs ys).take j)) (xs[j] ^^^ ys[j]) = Crc.raw Crc.P32 0 ((diff xs ys).take (j + 1))) := raw32_diff xs ys j hx1 hy1
      generalize xs[j] ^^^ ys[j] = t at *
      generalize xs[j] = p at *
      generalize ys[j] = q at *
      generalize Crc.raw Crc.P32 0 ((diff xs ys).take j) = r at *
      go_wp2_with fail
      refine (put32_any r t w HT.out hq hxb).mono ?_
      rintro e w1 ⟨rfl, rfl⟩
      go_wp2
      go_round
      case rel => exact ⟨j + 1, by omega, by go_num, by rw [HP.out]⟩
      case measure => simp [intOf]; omega
    · obtain rfl : j = k := by omega
      have HF : Hid ((diff xs ys).take j = diff xs ys) := List.take_of_length_le (by rw [diff_length HL.out HM.out]; exact Nat.le_refl _)
      rw [HF.out] at hq ⊢
      generalize hr : Crc.raw Crc.P32 0 (diff xs ys) = r at *
      have HR : Hid (Crc.raw Crc.P32 0 (diff xs ys) = r) := hr
      clear hr
      have hx := xor32 s _ hs (Crc.itr_lt (w := 32) Crc.p32_lt (8 * (n - off - j)) hq)
      have hm : (n : Int) - off - j = ((n - off - j : Nat) : Int) := by omega
      have hm2 : n - off - j ≤ 140737488355328 := by omega
      generalize hmm : n - off - j = m at *
      have HM2 : Hid (n - off - j = m) := hmm
      clear hmm
      go_wp2_with fail
      refine (zeros32_any r m w HT.out hq hm2).mono ?_
      rintro e w1 ⟨rfl, hc⟩
      generalize hz : Crc.itr Crc.P32 (8 * m) r = z at *
      have HZ : Hid (Crc.itr Crc.P32 (8 * m) r = z) := hz
      clear hz
      go_wp2
      go_ret2
      exact ⟨by rw [HR.out, HM2.out, HZ.out]; rfl, hc⟩

set_option maxHeartbeats 1000000 in
theorem patch32_nil (s n off : Nat) (a b : Option Addr) (c d : Nat) (w : World) (HT : Hid (Tab w)) (hs : s < 4294967296) (hn : n ≤ 1099511627776) (ho : off + 0 ≤ n) :
    Calls Tryd.prog 13 #[.int .u32 s, .int .i64 n, .int .i64 off, .slice a 0 c, .slice b 0 d] w fun e w' => e = .returned (.tuple #[.int .u32 (s ^^^ Crc.itr Crc.P32 (8 * (n - off - 0)) (Crc.raw Crc.P32 0 (diff [] [])) : Nat), .int .i64 0]) ∧ Chg (fun _ => False) w w' := by
  have hx := xor32 s _ hs (Crc.itr_lt (w := 32) Crc.p32_lt (8 * (n - off - 0)) (s := 0) (by decide))
  have hm : (n : Int) - off = ((n - off - 0 : Nat) : Int) := by omega
  have hm2 : n - off - 0 ≤ 140737488355328 := by omega
  have HR : Hid (Crc.raw Crc.P32 0 (diff [] []) = 0) := rfl
  go_enter Tryd.func13, Tryd.ntmps13
  go_wp2_with fail
  refine (patchable_yes n off 0 _ _ c d w hn ho).mono ?_
  rintro e w1 ⟨rfl, rfl⟩
  go_wp2_with fail
  go_loop [12, 23] (fun z i => z = .int .u32 0 ∧ i = .int .i64 0) (fun _ i => 0)
  case atStart => exact ⟨rfl, rfl⟩
  case round =>
    obtain ⟨rfl, rfl⟩ := hrel
    generalize hmm : n - off - 0 = m at *
    have HM2 : Hid (n - off - 0 = m) := hmm
    clear hmm
    go_wp2_with fail
    refine (zeros32_any 0 m w HT.out (by decide) hm2).mono ?_
    rintro e w1 ⟨rfl, hc⟩
    generalize hz : Crc.itr Crc.P32 (8 * m) 0 = z at *
    have HZ : Hid (Crc.itr Crc.P32 (8 * m) 0 = z) := hz
    clear hz
    go_wp2
    go_ret2
    exact ⟨by rw [HR.out, HM2.out, HZ.out]; rfl, hc⟩

theorem patch32_any (s n off k : Nat) (a b : Option Addr) (c d : Nat) (xs ys : List Nat) (w : World) (hT : Tab w) (hs : s < 4294967296)
    (hx : Row8 w a k c (up xs)) (hy : Row8 w b k d (up ys)) (h8 : Byt xs) (h9 : Byt ys) (hn : n ≤ 1099511627776) (ho : off + k ≤ n) :
    Calls Tryd.prog 13 #[.int .u32 s, .int .i64 n, .int .i64 off, .slice a k c, .slice b k d] w fun e w' => e = .returned (.tuple #[.int .u32 (s ^^^ Crc.itr Crc.P32 (8 * (n - off - k)) (Crc.raw Crc.P32 0 (diff xs ys)) : Nat), .int .i64 0]) ∧ Chg (fun _ => False) w w' := by
  have h1 : xs.length = k := by rw [← up_length]; exact hx.1
  have h2 : ys.length = k := by rw [← up_length]; exact hy.1
  by_cases hk : k = 0
  · subst hk
    have e1 : xs = [] := List.eq_nil_of_length_eq_zero h1
    have e2 : ys = [] := List.eq_nil_of_length_eq_zero h2
    subst e1 e2
    exact patch32_nil s n off a b c d w hT hs hn ho
  · rcases hx.2 with ⟨_, e, _⟩ | ⟨x, rfl, hxx⟩
    · exact absurd e hk
    · rcases hy.2 with ⟨_, e, _⟩ | ⟨y, rfl, hyy⟩
      · exact absurd e hk
      · exact patch32_some s n off k x y c d xs ys w hT hs hxx hyy h1 h2 h8 h9 hn ho
theorem join64_yes (a b n : Nat) (w : World) (hT : Tab w) (ha : a < 18446744073709551616) (hb : b < 18446744073709551616) (hn : n ≤ 1099511627776) :
    Calls Tryd.prog 22 #[.int .u64 a, .int .u64 b, .int .i64 n] w fun e w' => e = .returned (.tuple #[.int .u64 (Crc.itr Crc.P64 (8 * n) a ^^^ b : Nat), .int .i64 0]) ∧ Chg (fun _ => False) w w' := by
  have hx := xor64 _ b (Crc.itr_lt (w := 64) Crc.p64_lt (8 * n) ha) hb
  go_enter Tryd.func22, Tryd.ntmps22
  go_wp2_with fail
  refine (joinable_yes n w hn).mono ?_
  rintro e w1 ⟨rfl, rfl⟩
  go_wp2_with fail
  refine (zeros64_any a n w hT ha (by omega)).mono ?_
  rintro e w1 ⟨rfl, hc⟩
  clear hT
  generalize hz : Crc.itr Crc.P64 (8 * n) a = z at *
  have HZ : Hid (Crc.itr Crc.P64 (8 * n) a = z) := hz
  clear hz
  go_wp2
  go_ret2
  exact ⟨by rw [HZ.out]; rfl, hc⟩

theorem join64_no (a b : Nat) (n : Int) (w : World) (h : n < 0 ∨ 1099511627776 < n) :
    Calls Tryd.prog 22 #[.int .u64 a, .int .u64 b, .int .i64 n] w fun e w' => e = .returned (.tuple #[.int .u64 0, .int .i64 7]) ∧ w = w' := by
  go_enter Tryd.func22, Tryd.ntmps22
  go_wp2_with fail
  refine (joinable_no n w h).mono ?_
  rintro e w1 ⟨rfl, rfl⟩
  clear h
  go_wp2
  go_ret2
  exact ⟨rfl, rfl⟩

theorem patch64_no (s : Nat) (n off : Int) (k l : Nat) (a b : Option Addr) (c d : Nat) (w : World) (h : ¬ Fits n off k l) (o0 : off ≤ 9223372036854775807) (hk : k ≤ 140737488355328) (hl : l ≤ 140737488355328) :
    Calls Tryd.prog 14 #[.int .u64 s, .int .i64 n, .int .i64 off, .slice a k c, .slice b l d] w fun e w' => e = .returned (.tuple #[.int .u64 0, .int .i64 7]) ∧ w = w' := by
  go_enter Tryd.func14, Tryd.ntmps14
  go_wp2_with fail
  refine (patchable_no n off k l a b c d w h o0 hk hl).mono ?_
  rintro e w1 ⟨rfl, rfl⟩
  clear h
  go_wp2
  go_ret2
  exact ⟨rfl, rfl⟩

theorem raw64_diff (x y : List Nat) (j : Nat) (hx : j < x.length) (hy : j < y.length) : Crc.put Crc.P64 (Crc.raw Crc.P64 0 ((diff x y).take j)) (x[j] ^^^ y[j]) = Crc.raw Crc.P64 0 ((diff x y).take (j + 1)) := by
  have hd : j < (diff x y).length := by simp [diff]; omega
  rw [← raw64_take 0 (diff x y) j hd]
  simp [diff]

set_option maxHeartbeats 1000000 in
theorem patch64_some (s n off k : Nat) (x y : Addr) (c d : Nat) (xs ys : List Nat) (w : World) (HT : Hid (Tab w)) (hs : s < 18446744073709551616)
    (HX : Hid (∀ j u, ((up xs).map (Value.int .u8))[j]? = some u → w.cell? (x.add j) = some u)) (HY : Hid (∀ j u, ((up ys).map (Value.int .u8))[j]? = some u → w.cell? (y.add j) = some u))
    (HL : Hid (xs.length = k)) (HM : Hid (ys.length = k)) (H8 : Hid (Byt xs)) (H9 : Hid (Byt ys)) (hn : n ≤ 1099511627776) (ho : off + k ≤ n) :
    Calls Tryd.prog 14 #[.int .u64 s, .int .i64 n, .int .i64 off, .slice (some x) k c, .slice (some y) k d] w fun e w' => e = .returned (.tuple #[.int .u64 (s ^^^ Crc.itr Crc.P64 (8 * (n - off - k)) (Crc.raw Crc.P64 0 (diff xs ys)) : Nat), .int .i64 0]) ∧ Chg (fun _ => False) w w' := by
  go_enter Tryd.func14, Tryd.ntmps14
  go_wp2_with fail
  refine (patchable_yes n off k _ _ c d w hn ho).mono ?_
  rintro e w1 ⟨rfl, rfl⟩
  go_wp2_with fail
  go_loop [12, 23] (fun z i => ∃ j : Nat, j ≤ k ∧ i = .int .i64 j ∧ z = .int .u64 (Crc.raw Crc.P64 0 ((diff xs ys).take j) : Nat)) (fun _ i => k - (intOf i).toNat)
  case atStart => exact ⟨0, by omega, rfl, rfl⟩
  case round =>
    obtain ⟨j, hj, rfl, rfl⟩ := hrel
    have hq : Crc.raw Crc.P64 0 ((diff xs ys).take j) < 18446744073709551616 := raw64_lt ((diff_byt H8.out H9.out).take j) (by decide)
    by_cases hlt : j < k
    · have hx1 : j < xs.length := by rw [HL.out]; exact hlt
      have hy1 : j < ys.length := by rw [HM.out]; exact hlt
      have c1 := cellN HX.out j hx1
      have c2 := cellN HY.out j hy1
      have b1 := H8.out.at j hx1
      have b2 := H9.out.at j hy1
      have hxx := u8xor _ _ b1 b2
      have hxb : xs[j] ^^^ ys[j] < 256 := Nat.xor_lt_two_pow (n := 8) b1 b2
      have HP : Hid (Crc.put Crc.P64 (Crc.raw Crc.P64 0 ((diff xs ys).take j)) (xs[j] ^^^ ys[j]) = Crc.raw Crc.P64 0 ((diff xs ys).take (j + 1))) := raw64_diff xs ys j hx1 hy1
      generalize xs[j] ^^^ ys[j] = t at *
      generalize xs[j] = p at *
      generalize ys[j] = q at *
      generalize Crc.raw Crc.P64 0 ((diff xs ys).take j) = r at *
      go_wp2_with fail
      refine (put64_any r t w HT.out hq hxb).mono ?_
      rintro e w1 ⟨rfl, rfl⟩
      go_wp2
      go_round
      case rel => exact ⟨j + 1, by omega, by go_num, by rw [HP.out]⟩
      case measure => simp [intOf]; omega
    · obtain rfl : j = k := by omega
      have HF : Hid ((diff xs ys).take j = diff xs ys) := List.take_of_length_le (by rw [diff_length HL.out HM.out]; exact Nat.le_refl _)
      rw [HF.out] at hq ⊢
      generalize hr : Crc.raw Crc.P64 0 (diff xs ys) = r at *
      have HR : Hid (Crc.raw Crc.P64 0 (diff xs ys) = r) := hr
      clear hr
      have hx := xor64 s _ hs (Crc.itr_lt (w := 64) Crc.p64_lt (8 * (n - off - j)) hq)
      have hm : (n : Int) - off - j = ((n - off - j : Nat) : Int) := by omega
      have hm2 : n - off - j ≤ 140737488355328 := by omega
      generalize hmm : n - off - j = m at *
      have HM2 : Hid (n - off - j = m) := hmm
      clear hmm
      go_wp2_with fail
      refine (zeros64_any r m w HT.out hq hm2).mono ?_
      rintro e w1 ⟨rfl, hc⟩
      generalize hz : Crc.itr Crc.P64 (8 * m) r = z at *
      have HZ : Hid (Crc.itr Crc.P64 (8 * m) r = z) := hz
      clear hz
      go_wp2
      go_ret2
      exact ⟨by rw [HR.out, HM2.out, HZ.out]; rfl, hc⟩

set_option maxHeartbeats 1000000 in
theorem patch64_nil (s n off : Nat) (a b : Option Addr) (c d : Nat) (w : World) (HT : Hid (Tab w)) (hs : s < 18446744073709551616) (hn : n ≤ 1099511627776) (ho : off + 0 ≤ n) :
    Calls Tryd.prog 14 #[.int .u64 s, .int .i64 n, .int .i64 off, .slice a 0 c, .slice b 0 d] w fun e w' => e = .returned (.tuple #[.int .u64 (s ^^^ Crc.itr Crc.P64 (8 * (n - off - 0)) (Crc.raw Crc.P64 0 (diff [] [])) : Nat), .int .i64 0]) ∧ Chg (fun _ => False) w w' := by
  have hx := xor64 s _ hs (Crc.itr_lt (w := 64) Crc.p64_lt (8 * (n - off - 0)) (s := 0) (by decide))
  have hm : (n : Int) - off = ((n - off - 0 : Nat) : Int) := by omega
  have hm2 : n - off - 0 ≤ 140737488355328 := by omega
  have HR : Hid (Crc.raw Crc.P64 0 (diff [] []) = 0) := rfl
  go_enter Tryd.func14, Tryd.ntmps14
  go_wp2_with fail
  refine (patchable_yes n off 0 _ _ c d w hn ho).mono ?_
  rintro e w1 ⟨rfl, rfl⟩
  go_wp2_with fail
  go_loop [12, 23] (fun z i => z = .int .u64 0 ∧ i = .int .i64 0) (fun _ i => 0)
  case atStart => exact ⟨rfl, rfl⟩
  case round =>
    obtain ⟨rfl, rfl⟩ := hrel
    generalize hmm : n - off - 0 = m at *
    have HM2 : Hid (n - off - 0 = m) := hmm
    clear hmm
    go_wp2_with fail
    refine (zeros64_any 0 m w HT.out (by decide) hm2).mono ?_
    rintro e w1 ⟨rfl, hc⟩
    generalize hz : Crc.itr Crc.P64 (8 * m) 0 = z at *
    have HZ : Hid (Crc.itr Crc.P64 (8 * m) 0 = z) := hz
    clear hz
    go_wp2
    go_ret2
    exact ⟨by rw [HR.out, HM2.out, HZ.out]; rfl, hc⟩

theorem patch64_any (s n off k : Nat) (a b : Option Addr) (c d : Nat) (xs ys : List Nat) (w : World) (hT : Tab w) (hs : s < 18446744073709551616)
    (hx : Row8 w a k c (up xs)) (hy : Row8 w b k d (up ys)) (h8 : Byt xs) (h9 : Byt ys) (hn : n ≤ 1099511627776) (ho : off + k ≤ n) :
    Calls Tryd.prog 14 #[.int .u64 s, .int .i64 n, .int .i64 off, .slice a k c, .slice b k d] w fun e w' => e = .returned (.tuple #[.int .u64 (s ^^^ Crc.itr Crc.P64 (8 * (n - off - k)) (Crc.raw Crc.P64 0 (diff xs ys)) : Nat), .int .i64 0]) ∧ Chg (fun _ => False) w w' := by
  have h1 : xs.length = k := by rw [← up_length]; exact hx.1
  have h2 : ys.length = k := by rw [← up_length]; exact hy.1
  by_cases hk : k = 0
  · subst hk
    have e1 : xs = [] := List.eq_nil_of_length_eq_zero h1
    have e2 : ys = [] := List.eq_nil_of_length_eq_zero h2
    subst e1 e2
    exact patch64_nil s n off a b c d w hT hs hn ho
  · rcases hx.2 with ⟨_, e, _⟩ | ⟨x, rfl, hxx⟩
    · exact absurd e hk
    · rcases hy.2 with ⟨_, e, _⟩ | ⟨y, rfl, hyy⟩
      · exact absurd e hk
      · exact patch64_some s n off k x y c d xs ys w hT hs hxx hyy h1 h2 h8 h9 hn ho
end Go.Proofs.YtmgjbkgooekihaaDoor
