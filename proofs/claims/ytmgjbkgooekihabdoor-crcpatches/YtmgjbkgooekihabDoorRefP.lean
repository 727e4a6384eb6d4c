/- The document's own answer to Patch: its contract; of no statement by itself. -/
import Derived.Test.YtmgjbkgooekihabDoorRefZ
namespace Go.Proofs.YtmgjbkgooekihabDoor
open Go.RowKit

theorem pre_no {n off : Int} {k l : Nat} (h : ¬ Fits n off k l) : n < 0 ∨ 1099511627776 < n ∨ off < 0 ∨ l ≠ k ∨ n < off ∨ n - off < k := by
  unfold Fits at h
  omega

set_option maxHeartbeats 1000000 in
theorem refpatch32_no (s : Nat) (n off : Int) (k l : Nat) (a b : Option Addr) (c d : Nat) (w : World) (h : ¬ Fits n off k l) (o0 : -9223372036854775808 ≤ off) (o1 : off ≤ 9223372036854775807) (hk : k ≤ 140737488355328) (hl : l ≤ 140737488355328) :
    Calls Tryd.prog 18 #[.int .u64 s, .int .i64 n, .int .i64 off, .slice a k c, .slice b l d, .int .i64 32] w fun e w' => e = .returned (.tuple #[.int .u64 0, .int .i64 7]) ∧ w = w' := by
  have hp := pre_no h
  clear h
  by_cases h1 : n < 0
  · clear hp
    go_enter Tryd.func18, Tryd.ntmps18
    go_wp2
    go_ret2
    exact ⟨rfl, rfl⟩
  · by_cases h2 : 1099511627776 < n
    · clear hp
      go_enter Tryd.func18, Tryd.ntmps18
      go_wp2
      go_ret2
      exact ⟨rfl, rfl⟩
    · by_cases h3 : off < 0
      · clear hp
        go_enter Tryd.func18, Tryd.ntmps18
        go_wp2
        go_ret2
        exact ⟨rfl, rfl⟩
      · by_cases h4 : l = k
        · subst h4
          by_cases h5 : n < off
          · clear hp
            go_enter Tryd.func18, Tryd.ntmps18
            go_wp2
            go_ret2
            exact ⟨rfl, rfl⟩
          · have h6 : n - off < l := by omega
            clear hp
            go_enter Tryd.func18, Tryd.ntmps18
            go_wp2
            go_ret2
            exact ⟨rfl, rfl⟩
        · have hb : ((l : Int) != (k : Int)) = true := bne_iff_ne.2 (by omega)
          clear hp
          go_enter Tryd.func18, Tryd.ntmps18
          go_wp2
          go_ret2
          exact ⟨rfl, rfl⟩

theorem refput32_quiet (s x : Nat) (w : World) (hs : s < 4294967296) (hx : x < 256) (n : Nat) :
    Calls Tryd.prog 25 #[.int .u64 s, .int .u8 x, .int .i64 32] (w.drewN n) fun e w' => e = .returned (.int .u64 (Crc.put Crc.P32 s x : Nat)) ∧ ∃ m, w' = w.drewN m :=
  (refput32 s x (w.drewN n) hs hx).mono fun _ _ ⟨he, hm⟩ => ⟨he, n, hm.symm⟩

set_option maxHeartbeats 1000000 in
theorem refpatch32_some (s n off k : Nat) (x y : Addr) (c d : Nat) (xs ys : List Nat) (w : World) (hs : s < 4294967296)
    (HX : Hid (∀ j u, ((up xs).map (Value.int .u8))[j]? = some u → w.cell? (x.add j) = some u)) (HY : Hid (∀ j u, ((up ys).map (Value.int .u8))[j]? = some u → w.cell? (y.add j) = some u))
    (HL : Hid (xs.length = k)) (HM : Hid (ys.length = k)) (H8 : Hid (Byt xs)) (H9 : Hid (Byt ys)) (hn : n ≤ 1099511627776) (ho : off + k ≤ n) :
    Calls Tryd.prog 18 #[.int .u64 s, .int .i64 n, .int .i64 off, .slice (some x) k c, .slice (some y) k d, .int .i64 32] w fun e w' => e = .returned (.tuple #[.int .u64 (s ^^^ Crc.itr Crc.P32 (8 * (n - off - k)) (Crc.raw Crc.P32 0 (diff xs ys)) : Nat), .int .i64 0]) ∧ Chg (fun _ => False) w w' := by
  go_enter Tryd.func18, Tryd.ntmps18
  go_wp2_with fail
  go_loopw [15, 16] (fun z i wr => ∃ j : Nat, j ≤ k ∧ i = .int .i64 j ∧ z = .int .u64 (Crc.raw Crc.P32 0 ((diff xs ys).take j) : Nat) ∧ Chg (fun _ => False) w wr) (fun _ i _ => k - (intOf i).toNat)
  case atStart => exact ⟨0, by omega, rfl, rfl, Chg.refl _ _⟩
  case round =>
    obtain ⟨j, hj, rfl, rfl, hc⟩ := hrel
    have hq : Crc.raw Crc.P32 0 ((diff xs ys).take j) < 4294967296 := raw32_lt ((diff_byt H8.out H9.out).take j) (by decide)
    by_cases hlt : j < k
    · have hx1 : j < xs.length := by rw [HL.out]; exact hlt
      have hy1 : j < ys.length := by rw [HM.out]; exact hlt
      have c1 : wr.cell? (x.add j) = some (.int .u8 (xs[j] : Nat)) := by
        have h := cellN HX.out j hx1
        rw [World.cell?_of_block (w := w) (hc.block _ (World.block_lt_of_cell? w _ h) (fun f => f))]
        exact h
      have c2 : wr.cell? (y.add j) = some (.int .u8 (ys[j] : Nat)) := by
        have h := cellN HY.out j hy1
        rw [World.cell?_of_block (w := w) (hc.block _ (World.block_lt_of_cell? w _ h) (fun f => f))]
        exact h
      have b1 := H8.out.at j hx1
      have b2 := H9.out.at j hy1
      have hxx := u8xor _ _ b1 b2
      have hxb : xs[j] ^^^ ys[j] < 256 := Nat.xor_lt_two_pow (n := 8) b1 b2
      have HP : Hid (Crc.put Crc.P32 (Crc.raw Crc.P32 0 ((diff xs ys).take j)) (xs[j] ^^^ ys[j]) = Crc.raw Crc.P32 0 ((diff xs ys).take (j + 1))) := raw32_diff xs ys j hx1 hy1
      generalize xs[j] ^^^ ys[j] = t at *
      generalize xs[j] = p at *
      generalize ys[j] = q at *
      generalize Crc.raw Crc.P32 0 ((diff xs ys).take j) = r at *
      go_wp2_with fail
      go_quiet (first | (go_at_call 25; exact refput32_quiet r t _ hq hxb _))
      go_wp2
      go_roundw
      case rel => exact ⟨j + 1, by omega, by go_num, by rw [HP.out], chg_then hc ⟨rfl, rfl, rfl, Nat.le_refl _, fun _ _ _ => rfl⟩⟩
      case measure => simp [intOf]; omega
    · obtain rfl : j = k := by omega
      have HF : Hid ((diff xs ys).take j = diff xs ys) := List.take_of_length_le (by rw [diff_length HL.out HM.out]; exact Nat.le_refl _)
      rw [HF.out] at hq ⊢
      generalize hr : Crc.raw Crc.P32 0 (diff xs ys) = r at *
      have HR : Hid (Crc.raw Crc.P32 0 (diff xs ys) = r) := hr
      clear hr
      have hx := xor64 s _ (le32 hs) (le32 (Crc.itr_lt (w := 32) Crc.p32_lt (8 * (n - off - j)) hq))
      have hm : (n : Int) - off - j = ((n - off - j : Nat) : Int) := by omega
      have hm2 : n - off - j ≤ 140737488355328 := by omega
      generalize hmm : n - off - j = m at *
      have HM2 : Hid (n - off - j = m) := hmm
      clear hmm
      go_wp2_with fail
      refine (refzeros32 r m wr hq hm2).mono ?_
      rintro e w1 ⟨rfl, rfl⟩
      generalize hz : Crc.itr Crc.P32 (8 * m) r = z at *
      have HZ : Hid (Crc.itr Crc.P32 (8 * m) r = z) := hz
      clear hz
      go_wp2
      go_ret2
      exact ⟨by rw [HR.out, HM2.out, HZ.out]; rfl, hc⟩

set_option maxHeartbeats 1000000 in
theorem refpatch32_nil (s n off : Nat) (a b : Option Addr) (c d : Nat) (w : World) (hs : s < 4294967296) (hn : n ≤ 1099511627776) (ho : off + 0 ≤ n) :
    Calls Tryd.prog 18 #[.int .u64 s, .int .i64 n, .int .i64 off, .slice a 0 c, .slice b 0 d, .int .i64 32] w fun e w' => e = .returned (.tuple #[.int .u64 (s ^^^ Crc.itr Crc.P32 (8 * (n - off - 0)) (Crc.raw Crc.P32 0 (diff [] [])) : Nat), .int .i64 0]) ∧ Chg (fun _ => False) w w' := by
  have hx := xor64 s _ (le32 hs) (le32 (Crc.itr_lt (w := 32) Crc.p32_lt (8 * (n - off - 0)) (s := 0) (by decide)))
  have hm : (n : Int) - off = ((n - off - 0 : Nat) : Int) := by omega
  have hm2 : n - off - 0 ≤ 140737488355328 := by omega
  have HR : Hid (Crc.raw Crc.P32 0 (diff [] []) = 0) := rfl
  go_enter Tryd.func18, Tryd.ntmps18
  go_wp2_with fail
  go_loop [15, 16] (fun z i => z = .int .u64 0 ∧ i = .int .i64 0) (fun _ i => 0)
  case atStart => exact ⟨rfl, rfl⟩
  case round =>
    obtain ⟨rfl, rfl⟩ := hrel
    generalize hmm : n - off - 0 = m at *
    have HM2 : Hid (n - off - 0 = m) := hmm
    clear hmm
    go_wp2_with fail
    refine (refzeros32 0 m w (by decide) hm2).mono ?_
    rintro e w1 ⟨rfl, rfl⟩
    generalize hz : Crc.itr Crc.P32 (8 * m) 0 = z at *
    have HZ : Hid (Crc.itr Crc.P32 (8 * m) 0 = z) := hz
    clear hz
    go_wp2
    go_ret2
    exact ⟨by rw [HR.out, HM2.out, HZ.out]; rfl, Chg.refl _ _⟩

theorem refpatch32_any (s n off k : Nat) (a b : Option Addr) (c d : Nat) (xs ys : List Nat) (w : World) (hs : s < 4294967296)
    (hx : Row8 w a k c (up xs)) (hy : Row8 w b k d (up ys)) (h8 : Byt xs) (h9 : Byt ys) (hn : n ≤ 1099511627776) (ho : off + k ≤ n) :
    Calls Tryd.prog 18 #[.int .u64 s, .int .i64 n, .int .i64 off, .slice a k c, .slice b k d, .int .i64 32] w fun e w' => e = .returned (.tuple #[.int .u64 (s ^^^ Crc.itr Crc.P32 (8 * (n - off - k)) (Crc.raw Crc.P32 0 (diff xs ys)) : Nat), .int .i64 0]) ∧ Chg (fun _ => False) w w' := by
  have h1 : xs.length = k := by rw [← up_length]; exact hx.1
  have h2 : ys.length = k := by rw [← up_length]; exact hy.1
  by_cases hk : k = 0
  · subst hk
    have e1 : xs = [] := List.eq_nil_of_length_eq_zero h1
    have e2 : ys = [] := List.eq_nil_of_length_eq_zero h2
    subst e1 e2
    exact refpatch32_nil s n off a b c d w hs hn ho
  · rcases hx.2 with ⟨_, e, _⟩ | ⟨x, rfl, hxx⟩
    · exact absurd e hk
    · rcases hy.2 with ⟨_, e, _⟩ | ⟨y, rfl, hyy⟩
      · exact absurd e hk
      · exact refpatch32_some s n off k x y c d xs ys w hs hxx hyy h1 h2 h8 h9 hn ho
set_option maxHeartbeats 1000000 in
theorem refpatch64_no (s : Nat) (n off : Int) (k l : Nat) (a b : Option Addr) (c d : Nat) (w : World) (h : ¬ Fits n off k l) (o0 : -9223372036854775808 ≤ off) (o1 : off ≤ 9223372036854775807) (hk : k ≤ 140737488355328) (hl : l ≤ 140737488355328) :
    Calls Tryd.prog 18 #[.int .u64 s, .int .i64 n, .int .i64 off, .slice a k c, .slice b l d, .int .i64 64] w fun e w' => e = .returned (.tuple #[.int .u64 0, .int .i64 7]) ∧ w = w' := by
  have hp := pre_no h
  clear h
  by_cases h1 : n < 0
  · clear hp
    go_enter Tryd.func18, Tryd.ntmps18
    go_wp2
    go_ret2
    exact ⟨rfl, rfl⟩
  · by_cases h2 : 1099511627776 < n
    · clear hp
      go_enter Tryd.func18, Tryd.ntmps18
      go_wp2
      go_ret2
      exact ⟨rfl, rfl⟩
    · by_cases h3 : off < 0
      · clear hp
        go_enter Tryd.func18, Tryd.ntmps18
        go_wp2
        go_ret2
        exact ⟨rfl, rfl⟩
      · by_cases h4 : l = k
        · subst h4
          by_cases h5 : n < off
          · clear hp
            go_enter Tryd.func18, Tryd.ntmps18
            go_wp2
            go_ret2
            exact ⟨rfl, rfl⟩
          · have h6 : n - off < l := by omega
            clear hp
            go_enter Tryd.func18, Tryd.ntmps18
            go_wp2
            go_ret2
            exact ⟨rfl, rfl⟩
        · have hb : ((l : Int) != (k : Int)) = true := bne_iff_ne.2 (by omega)
          clear hp
          go_enter Tryd.func18, Tryd.ntmps18
          go_wp2
          go_ret2
          exact ⟨rfl, rfl⟩

theorem refput64_quiet (s x : Nat) (w : World) (hs : s < 18446744073709551616) (hx : x < 256) (n : Nat) :
    Calls Tryd.prog 25 #[.int .u64 s, .int .u8 x, .int .i64 64] (w.drewN n) fun e w' => e = .returned (.int .u64 (Crc.put Crc.P64 s x : Nat)) ∧ ∃ m, w' = w.drewN m :=
  (refput64 s x (w.drewN n) hs hx).mono fun _ _ ⟨he, hm⟩ => ⟨he, n, hm.symm⟩

set_option maxHeartbeats 1000000 in
theorem refpatch64_some (s n off k : Nat) (x y : Addr) (c d : Nat) (xs ys : List Nat) (w : World) (hs : s < 18446744073709551616)
    (HX : Hid (∀ j u, ((up xs).map (Value.int .u8))[j]? = some u → w.cell? (x.add j) = some u)) (HY : Hid (∀ j u, ((up ys).map (Value.int .u8))[j]? = some u → w.cell? (y.add j) = some u))
    (HL : Hid (xs.length = k)) (HM : Hid (ys.length = k)) (H8 : Hid (Byt xs)) (H9 : Hid (Byt ys)) (hn : n ≤ 1099511627776) (ho : off + k ≤ n) :
    Calls Tryd.prog 18 #[.int .u64 s, .int .i64 n, .int .i64 off, .slice (some x) k c, .slice (some y) k d, .int .i64 64] w fun e w' => e = .returned (.tuple #[.int .u64 (s ^^^ Crc.itr Crc.P64 (8 * (n - off - k)) (Crc.raw Crc.P64 0 (diff xs ys)) : Nat), .int .i64 0]) ∧ Chg (fun _ => False) w w' := by
  go_enter Tryd.func18, Tryd.ntmps18
  go_wp2_with fail
  go_loopw [15, 16] (fun z i wr => ∃ j : Nat, j ≤ k ∧ i = .int .i64 j ∧ z = .int .u64 (Crc.raw Crc.P64 0 ((diff xs ys).take j) : Nat) ∧ Chg (fun _ => False) w wr) (fun _ i _ => k - (intOf i).toNat)
  case atStart => exact ⟨0, by omega, rfl, rfl, Chg.refl _ _⟩
  case round =>
    obtain ⟨j, hj, rfl, rfl, hc⟩ := hrel
    have hq : Crc.raw Crc.P64 0 ((diff xs ys).take j) < 18446744073709551616 := raw64_lt ((diff_byt H8.out H9.out).take j) (by decide)
    by_cases hlt : j < k
    · have hx1 : j < xs.length := by rw [HL.out]; exact hlt
      have hy1 : j < ys.length := by rw [HM.out]; exact hlt
      have c1 : wr.cell? (x.add j) = some (.int .u8 (xs[j] : Nat)) := by
        have h := cellN HX.out j hx1
        rw [World.cell?_of_block (w := w) (hc.block _ (World.block_lt_of_cell? w _ h) (fun f => f))]
        exact h
      have c2 : wr.cell? (y.add j) = some (.int .u8 (ys[j] : Nat)) := by
        have h := cellN HY.out j hy1
        rw [World.cell?_of_block (w := w) (hc.block _ (World.block_lt_of_cell? w _ h) (fun f => f))]
        exact h
      have b1 := H8.out.at j hx1
      have b2 := H9.out.at j hy1
      have hxx := u8xor _ _ b1 b2
      have hxb : xs[j] ^^^ ys[j] < 256 := Nat.xor_lt_two_pow (n := 8) b1 b2
      have HP : Hid (Crc.put Crc.P64 (Crc.raw Crc.P64 0 ((diff xs ys).take j)) (xs[j] ^^^ ys[j]) = Crc.raw Crc.P64 0 ((diff xs ys).take (j + 1))) := raw64_diff xs ys j hx1 hy1
      generalize xs[j] ^^^ ys[j] = t at *
      generalize xs[j] = p at *
      generalize ys[j] = q at *
      generalize Crc.raw Crc.P64 0 ((diff xs ys).take j) = r at *
      go_wp2_with fail
      go_quiet (first | (go_at_call 25; exact refput64_quiet r t _ hq hxb _))
      go_wp2
      go_roundw
      case rel => exact ⟨j + 1, by omega, by go_num, by rw [HP.out], chg_then hc ⟨rfl, rfl, rfl, Nat.le_refl _, fun _ _ _ => rfl⟩⟩
      case measure => simp [intOf]; omega
    · obtain rfl : j = k := by omega
      have HF : Hid ((diff xs ys).take j = diff xs ys) := List.take_of_length_le (by rw [diff_length HL.out HM.out]; exact Nat.le_refl _)
      rw [HF.out] at hq ⊢
      generalize hr : Crc.raw Crc.P64 0 (diff xs ys) = r at *
      have HR : Hid (Crc.raw Crc.P64 0 (diff xs ys) = r) := hr
      clear hr
      have hx := xor64 s _ (le64 hs) (le64 (Crc.itr_lt (w := 64) Crc.p64_lt (8 * (n - off - j)) hq))
      have hm : (n : Int) - off - j = ((n - off - j : Nat) : Int) := by omega
      have hm2 : n - off - j ≤ 140737488355328 := by omega
      generalize hmm : n - off - j = m at *
      have HM2 : Hid (n - off - j = m) := hmm
      clear hmm
      go_wp2_with fail
      refine (refzeros64 r m wr hq hm2).mono ?_
      rintro e w1 ⟨rfl, rfl⟩
      generalize hz : Crc.itr Crc.P64 (8 * m) r = z at *
      have HZ : Hid (Crc.itr Crc.P64 (8 * m) r = z) := hz
      clear hz
      go_wp2
      go_ret2
      exact ⟨by rw [HR.out, HM2.out, HZ.out]; rfl, hc⟩

set_option maxHeartbeats 1000000 in
theorem refpatch64_nil (s n off : Nat) (a b : Option Addr) (c d : Nat) (w : World) (hs : s < 18446744073709551616) (hn : n ≤ 1099511627776) (ho : off + 0 ≤ n) :
    Calls Tryd.prog 18 #[.int .u64 s, .int .i64 n, .int .i64 off, .slice a 0 c, .slice b 0 d, .int .i64 64] w fun e w' => e = .returned (.tuple #[.int .u64 (s ^^^ Crc.itr Crc.P64 (8 * (n - off - 0)) (Crc.raw Crc.P64 0 (diff [] [])) : Nat), .int .i64 0]) ∧ Chg (fun _ => False) w w' := by
  have hx := xor64 s _ (le64 hs) (le64 (Crc.itr_lt (w := 64) Crc.p64_lt (8 * (n - off - 0)) (s := 0) (by decide)))
  have hm : (n : Int) - off = ((n - off - 0 : Nat) : Int) := by omega
  have hm2 : n - off - 0 ≤ 140737488355328 := by omega
  have HR : Hid (Crc.raw Crc.P64 0 (diff [] []) = 0) := rfl
  go_enter Tryd.func18, Tryd.ntmps18
  go_wp2_with fail
  go_loop [15, 16] (fun z i => z = .int .u64 0 ∧ i = .int .i64 0) (fun _ i => 0)
  case atStart => exact ⟨rfl, rfl⟩
  case round =>
    obtain ⟨rfl, rfl⟩ := hrel
    generalize hmm : n - off - 0 = m at *
    have HM2 : Hid (n - off - 0 = m) := hmm
    clear hmm
    go_wp2_with fail
    refine (refzeros64 0 m w (by decide) hm2).mono ?_
    rintro e w1 ⟨rfl, rfl⟩
    generalize hz : Crc.itr Crc.P64 (8 * m) 0 = z at *
    have HZ : Hid (Crc.itr Crc.P64 (8 * m) 0 = z) := hz
    clear hz
    go_wp2
    go_ret2
    exact ⟨by rw [HR.out, HM2.out, HZ.out]; rfl, Chg.refl _ _⟩

theorem refpatch64_any (s n off k : Nat) (a b : Option Addr) (c d : Nat) (xs ys : List Nat) (w : World) (hs : s < 18446744073709551616)
    (hx : Row8 w a k c (up xs)) (hy : Row8 w b k d (up ys)) (h8 : Byt xs) (h9 : Byt ys) (hn : n ≤ 1099511627776) (ho : off + k ≤ n) :
    Calls Tryd.prog 18 #[.int .u64 s, .int .i64 n, .int .i64 off, .slice a k c, .slice b k d, .int .i64 64] w fun e w' => e = .returned (.tuple #[.int .u64 (s ^^^ Crc.itr Crc.P64 (8 * (n - off - k)) (Crc.raw Crc.P64 0 (diff xs ys)) : Nat), .int .i64 0]) ∧ Chg (fun _ => False) w w' := by
  have h1 : xs.length = k := by rw [← up_length]; exact hx.1
  have h2 : ys.length = k := by rw [← up_length]; exact hy.1
  by_cases hk : k = 0
  · subst hk
    have e1 : xs = [] := List.eq_nil_of_length_eq_zero h1
    have e2 : ys = [] := List.eq_nil_of_length_eq_zero h2
    subst e1 e2
    exact refpatch64_nil s n off a b c d w hs hn ho
  · rcases hx.2 with ⟨_, e, _⟩ | ⟨x, rfl, hxx⟩
    · exact absurd e hk
    · rcases hy.2 with ⟨_, e, _⟩ | ⟨y, rfl, hyy⟩
      · exact absurd e hk
      · exact refpatch64_some s n off k x y c d xs ys w hs hxx hyy h1 h2 h8 h9 hn ho
end Go.Proofs.YtmgjbkgooekihabDoor
