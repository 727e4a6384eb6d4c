/- CrcFlips holds: for every list of bytes, every number and every mask handed to the statement's function the call returns true and the arguments read afterwards as they did; the two tables are as the program's text lays them. -/
import Derived.Test.YtmgjbkgooekihaaDoorStr
import Derived.Test.YtmgjbkgooekihaaDoorRefF
import Derived.Test.YtmgjbkgooekihaaDoorCards
import Derived.Test.YtmgjbkgooekihaaDoorTie
import Derived.SevenTiedAt
namespace Go.Proofs.YtmgjbkgooekihaaDoor.crcFlips
open Go.ChangeShapes Go.WideShapes Go.ChangeAt Go.RowKit
set_option linter.unusedVariables false

theorem cell0_keep {w w' : World} {x : Addr} {v : Value} (h : w.cell? x = some v) (hc : Chg (fun _ => False) w w') : w'.cell? x = some v := by
  rw [World.cell?_of_block (w := w) (hc.block _ (World.block_lt_of_cell? w _ h) (fun f => f))]
  exact h

theorem row8_blk {w : World} {g : Nat} {xs : List Int} (h : w.heap[g]? = some (.cells (cells8 xs).toArray 5 (0, 0))) (m : Nat) (hm : xs.length = m) (c : Nat) : Row8 w (some ⟨g, 0, none⟩) m c xs := by
  refine ⟨hm, .inr ⟨_, rfl, fun j u hu => ?_⟩⟩
  have hadd : (⟨g, 0, none⟩ : Addr).add j = ⟨g, j, none⟩ := by unfold Addr.add; split <;> simp_all
  rw [hadd, cell_of_row w g j _ 5 (0, 0) h]
  simpa [cells8] using hu

/-- The answer behind k rounds of writing. -/
def wr78 (l : List Nat) (k : Nat) : List Nat := List.replicate k 78 ++ l.drop k

theorem wr78_length (l : List Nat) (k : Nat) (hk : k ≤ l.length) : (wr78 l k).length = l.length := by simp [wr78]; omega

theorem wr78_step (l : List Nat) (k : Nat) (hk : k < l.length) : (wr78 l k).set k 78 = wr78 l (k + 1) := by
  unfold wr78
  rw [List.set_append_right _ _ (by simp), List.length_replicate, Nat.sub_self, List.drop_eq_getElem_cons hk, List.set_cons_zero, List.replicate_succ', List.append_assoc, List.singleton_append]

set_option maxHeartbeats 8000000 in
set_option maxRecDepth 100000 in
theorem walk_no (a : Option Addr) (n c : Nat) (xs : List Nat) (at_ : Int) (m L : Nat) (w0 : World) (T0 : Tab w0) (hx : Row8 w0 a n c (up xs)) (hb : Byt xs) (hn : n ≤ 140737488351232) (hm : m < 4294967296) (hL : Bits m L) (hl : L ≤ 32) (h0 : -9223372036854775808 ≤ at_) (h1 : at_ ≤ 9223372036854775807) (ha : ¬ (0 ≤ at_ ∧ at_ + L ≤ 8 * n)) :
    Calls Tryd.prog 7 #[.slice a n c, .int .i64 at_, .int .u32 m] w0 fun e w' => e = .returned (.bool true) ∧ Chg (fun _ => False) w0 w' := by
  obtain ⟨i0, hi, hz0, hz1, hz2⟩ := info_parts info5
  have HF : Hid (∀ w : World, ∀ b d, Calls Tryd.prog 18 #[.slice b n d, .int .i64 at_, .int .u32 m] w fun e w' => e = .returned (.tuple #[.slice none 0 0, .int .i64 7]) ∧ w = w') := fun w b d => flip_no b n d at_ m L w hn hm hL h0 h1 ha
  have HG : Hid (∀ w : World, Row8 w a n c (up xs) → Calls Tryd.prog 19 #[.slice a n c, .int .i64 at_, .int .u32 m] w fun e w' => e = .returned (.tuple #[.slice none 0 0, .int .i64 7]) ∧ Chg (fun _ => False) w w') := fun w hr => by
    by_cases hr1 : at_ < 0 ∨ 8 * (n : Int) < at_
    · exact (refflip_out a n c at_ m w hn hr1).mono fun e w' ⟨he, hw⟩ => ⟨he, by rw [hw]; exact Chg.refl _ _⟩
    · obtain ⟨A, rfl⟩ : ∃ A : Nat, at_ = A := ⟨at_.toNat, by omega⟩
      refine (refflip_in a n c xs A m L w hr hb hn hL hl (by omega)).mono fun e w' ⟨he, hw⟩ => ⟨?_, hw⟩
      rcases he with ⟨hy, _⟩ | ⟨_, he⟩
      · exact absurd hy (by omega)
      · exact he
  clear hL ha
  go_enter Tryd.func7, Tryd.ntmps7
  go_wp2_with fail
  refine (room_any a n c xs w0 hx hn).mono ?_
  rintro e w1 ⟨gl, cap, rfl, hroom, -, c1⟩
  have hx1 := row8_chg hx c1
  have T1 := T0.new c1
  clear T0 hx
  go_wp2_with fail
  refine (HF.out w1 _ _).mono ?_
  rintro e w2 ⟨rfl, rfl⟩
  go_wp2_with fail
  refine (HG.out w1 hx1).mono ?_
  rintro e w2 ⟨rfl, c2⟩
  have hx2 := row8_chg hx1 c2
  have T2 := T1.new c2
  have hroom2 := hroom.new c2
  have C2 := chg_then c1 c2
  clear c1 c2 hx1 T1 hroom HG
  have hcv := conv8_here (w := w2) (ad := none) (m := 0) (c := 0) (xs := []) ⟨rfl, .inl ⟨rfl, rfl, rfl⟩⟩
  generalize strOfNums [] = s0 at *
  go_wp2_with fail
  refine (held_any gl n cap a c xs w2 hroom2 hx2 hn).mono ?_
  rintro e w3 ⟨rfl, c3⟩
  have hx3 := row8_chg hx2 c3
  have T3 := T2.new c3
  have hroom3 := hroom2.new c3
  have C3 := chg_then C2 c3
  clear c3 C2 hx2 T2 hroom2 hcv
  go_wp2_with fail
  refine (HF.out w3 _ _).mono ?_
  rintro e w4 ⟨rfl, rfl⟩
  go_wp2_with fail
  go_loop [14] (fun i => i = .int .i64 0) (fun _ => 0)
  case atStart => rfl
  case round =>
    obtain rfl := hrel
    go_wp2_with (at_builtin; refine wpList_append_moved rfl _ _ 22 rfl w3.heap.size 5 i0 (.int .u8 0) 1 1 Tryd.underlying22 hi hz0 hz1 hz2 rfl (by decide) _ 0 (cells8 []) rfl (some ⟨w3.heap.size, 0, none⟩) 1 1 rfl [.int .u8 79] (World.ownsRow_nil _ _ _ _) (row8_one w3 79 5).src (oneCells [79]) (by decide) (by decide) (by simp) ?_)
    intro v4 w4 ho4 hg4 _
    have c4 : Chg (fun _ => False) w3 w4 := (chg_one w3 _).grown hg4 (fun k e => by cases e)
    have ho4' : w4.ownsRow w3.heap.size 5 1 v4 1 (cells8 [79]) := by simpa [cells8] using ho4
    obtain ⟨gm, cm, cur, rfl, hcm⟩ : ∃ g cap cur, v4 = .slice (some ⟨g, 0, none⟩) 1 cap ∧ w4.heap[g]? = some (.cells cur 5 (0, 0)) := by
      rcases ho4'.2 with ⟨_, e⟩ | ⟨g, cap, cur, rfl, _, hg, _⟩
      · cases e
      · exact ⟨g, cap, cur, rfl, hg⟩
    have q0 : w4.cell? ⟨gm, 0, none⟩ = some (.int .u8 79) := by
      have := ho4'.cells (g := gm) rfl 0 (.int .u8 79) (by simp [cells8])
      simpa [Addr.add] using this
    have hx4 := row8_chg hx3 c4
    have T4 := T3.new c4
    have hroom4 := hroom3.new c4
    have C4 := chg_then C3 c4
    have hcv := conv8_here (w := w4) (ad := none) (m := 0) (c := 0) (xs := []) ⟨rfl, .inl ⟨rfl, rfl, rfl⟩⟩
    generalize strOfNums [] = s0 at *
    clear c4 C3 hx3 T3 hroom3 ho4 ho4' hg4 hcm
    go_wp2_with fail
    refine (held_any gl n cap a c xs w4 hroom4 hx4 hn).mono ?_
    rintro e w5 ⟨rfl, c5⟩
    have T5 := T4.new c5
    have C5 := chg_then C4 c5
    have q5 := cell0_keep q0 c5
    clear c5 C4 hx4 T4 hroom4 hcv q0
    go_wp2_with fail
    go_loop [16] (fun i => i = .int .i64 0) (fun _ => 0)
    case atStart => rfl
    case round =>
      obtain rfl := hrel
      go_wp2_with fail
      refine (fixed_any w5 T5).mono ?_
      rintro e w6 ⟨rfl, c6⟩
      go_wp2
      go_ret
      exact ⟨rfl, chg_then C5 c6⟩

theorem addz (g k : Nat) : (⟨g, 0, none⟩ : Addr).add k = ⟨g, k, none⟩ := by unfold Addr.add; split <;> simp_all

set_option maxHeartbeats 8000000 in
set_option maxRecDepth 100000 in
theorem walk_yes (a : Option Addr) (n c : Nat) (xs : List Nat) (A m L : Nat) (w0 : World) (T0 : Tab w0) (hx : Row8 w0 a n c (up xs)) (hb : Byt xs) (hn : n ≤ 140737488351232) (hm : m < 4294967296) (hL : Bits m L) (hl : L ≤ 32) (ha : A + L ≤ 8 * n) :
    Calls Tryd.prog 7 #[.slice a n c, .int .i64 A, .int .u32 m] w0 fun e w' => e = .returned (.bool true) ∧ Chg (fun _ => False) w0 w' := by
  have hxl : xs.length = n := by rw [← up_length]; exact hx.1
  have HXL : Hid (xs.length = n) := hxl
  have HT0 : Hid (Tab w0) := T0
  have HL : Hid (Bits m L) := hL
  have HFL : Hid ((fl xs A m 32).length = n) := by show _ = _; rw [fl_length]; exact hxl
  clear hL hxl
  go_enter Tryd.func7, Tryd.ntmps7
  go_wp2_with fail
  refine (room_any a n c xs w0 hx hn).mono ?_
  rintro e w1 ⟨gl, cap, rfl, hroom, hgl, c1⟩
  have hx1 := row8_chg hx c1
  have T1 := T0.new c1
  have hgl2 : gl < w1.heap.size := by
    rcases hroom.row.2 with ⟨e, _⟩ | ⟨x, e, hq⟩
    · cases e
    · cases e
      have := World.block_lt_of_cell? w1 _ (hq n (.int .u8 77) (by simp [up, HXL.out]))
      rw [addz] at this
      exact this
  have hs1 := c1.size
  have HX0 : Hid (Row8 w0 a n c (up xs)) := hx
  clear T0 hx
  go_wp2_with fail
  refine (flip_yes (some ⟨gl, 0, none⟩) n cap xs A m L w1 (hroom.bytes HXL.out) hb hn hm HL.out hl ha).mono ?_
  rintro e w2 ⟨rfl, bx2, c2⟩
  have hx2 := row8_chg hx1 c2
  have T2 := T1.new c2
  have hroom2 := hroom.new c2
  have C2 := chg_then c1 c2
  have hs2 := lt_of_blk bx2
  clear c1 c2 hx1 T1 hroom
  go_wp2_with fail
  refine (refflip_in a n c xs A m L w2 hx2 hb hn HL.out hl (by omega)).mono ?_
  rintro e w3 ⟨he, c3⟩
  obtain ⟨ad, k3, rfl, rw3, hwb⟩ : ∃ ad k, e = .returned (.tuple #[.slice ad n k, .int .i64 0]) ∧ Row8 w3 ad n k (up (fl xs A m 32)) ∧ ∀ x, ad = some x → w2.heap.size ≤ x.block := by
    rcases he with ⟨_, h⟩ | ⟨h, _⟩
    · exact h
    · exact absurd ha h
  have hx3 := row8_chg hx2 c3
  have T3 := T2.new c3
  have hroom3 := hroom2.new c3
  have C3 := chg_then C2 c3
  have bx3 := blk_keep bx2 c3 (fun f => f)
  clear c3 C2 hx2 T2 hroom2 bx2 he
  have hv1 := conv8_here (row8_blk bx3 n (by rw [up_length]; exact HFL.out) n)
  have hv2 := conv8_here rw3
  generalize hS : strOfNums (up (fl xs A m 32)) = S at *
  have HS : Hid (strOfNums (up (fl xs A m 32)) = S) := hS
  clear hS
  go_wp2_with fail
  refine (held_any gl n cap a c xs w3 hroom3 hx3 hn).mono ?_
  rintro e w4 ⟨rfl, c4⟩
  have hx4 := row8_chg hx3 c4
  have T4 := T3.new c4
  have hroom4 := hroom3.new c4
  have C4 := chg_then C3 c4
  have bx4 := blk_keep bx3 c4 (fun f => f)
  have rw4 := row8_chg rw3 c4
  clear c4 C3 hx3 T3 hroom3 bx3 rw3 hv1 hv2
  go_wp2_with fail
  refine (flip_yes (some ⟨gl, 0, none⟩) n cap xs A m L w4 (hroom4.bytes HXL.out) hb hn hm HL.out hl ha).mono ?_
  rintro e w5 ⟨rfl, by5, c5⟩
  have hx5 := row8_chg hx4 c5
  have T5 := T4.new c5
  have hroom5 := hroom4.new c5
  have C5 := chg_then C4 c5
  have hs4 := lt_of_blk bx4
  have bx5 := blk_keep bx4 c5 (fun f => f)
  have rw5 := row8_chg rw4 c5
  clear c5 C4 hx4 T4 hroom4 bx4 rw4
  have HB5 : Hid (w5.heap[w1.heap.size]? = some (.cells (cells8 (up (wr78 (fl xs A m 32) 0))).toArray 5 (0, 0))) := by
    show _ = _
    rw [bx5]
    rfl
  clear bx5
  go_wp2_with fail
  go_loopw [14] (fun i wr => ∃ k : Nat, k ≤ n ∧ i = .int .i64 k ∧ Hid (wr.heap[w1.heap.size]? = some (.cells (cells8 (up (wr78 (fl xs A m 32) k))).toArray 5 (0, 0))) ∧ Hid (Chg (fun b => b = w1.heap.size) w5 wr)) (fun i _ => n - (intOf i).toNat)
  case atStart => exact ⟨0, by omega, rfl, HB5, Chg.refl _ _⟩
  case round =>
    clear HB5
    obtain ⟨k, hk, rfl, HB, HC⟩ := hrel
    by_cases hlt : k < n
    · have hkl : k < (fl xs A m 32).length := by rw [HFL.out]; exact hlt
      have hkw : k < (wr78 (fl xs A m 32) k).length := by rw [wr78_length _ _ (by omega)]; exact hkl
      obtain ⟨hcl, hfr, hset⟩ := turn_blk HB.out k hkw
      have HB2 : Hid ((wr.setCell ⟨w1.heap.size, k, none⟩ (.int .u8 78)).heap[w1.heap.size]? = some (.cells (cells8 (up (wr78 (fl xs A m 32) (k + 1)))).toArray 5 (0, 0))) := by
        show _ = _
        have := hset 78
        rw [wr78_step _ k hkl] at this
        exact this
      have HC2 : Hid (Chg (fun b => b = w1.heap.size) w5 (wr.setCell ⟨w1.heap.size, k, none⟩ (.int .u8 78))) := HC.out.setCell (.inl rfl) _
      clear HB HC hset
      generalize (wr78 (fl xs A m 32) k)[k] = z at *
      go_wp2
      go_roundw
      case rel => exact ⟨k + 1, by omega, by go_num, HB2, HC2⟩
      case measure => simp [intOf]; omega
    · obtain rfl : n = k := by omega
      have hE : wr78 (fl xs A m 32) n = List.replicate n 78 := by
        unfold wr78
        rw [List.drop_of_length_le (by rw [HFL.out]; exact Nat.le_refl _), List.append_nil]
      have bx := HB.out
      rw [hE] at bx
      have hc := HC.out
      have C6 : Chg (fun _ => False) w0 wr := C5.trans hc (fun i e => .inr (by omega))
      have hroom6 := hroom5.keep hc (by omega)
      have rw6 := row8_keep rw5 hc (fun x e f => by have := hwb x e; omega)
      have by6 := blk_keep by5 hc (by omega)
      have hx6 := row8_chg HX0.out C6
      have T6 : Tab wr := HT0.out.new C6
      clear HB HC hc hroom5 rw5 by5 hx5 T5 C5 hE
      have bxA := blk_keep bx (chg_one wr (.cells #[.int .u8 79] 5)) (fun f => f)
      go_wp2_with (at_builtin; refine wpList_append_full rfl _ _ rfl w1.heap.size n (up (List.replicate n 78)) rfl (some ⟨wr.heap.size, 0, none⟩) 1 1 rfl [79] bxA (by simp [up]) (row8_one wr 79 5) (by decide) (by omega) ?_)
      intro v7 w7 ho7 c7
      have c7' := chg_then (chg_one wr (.cells #[.int .u8 79] 5)) c7
      have bx7 := blk_keep bx c7' (fun f => f)
      have hroom7 := hroom6.new c7'
      have rw7 := row8_chg rw6 c7'
      have by7 := blk_keep by6 c7' (fun f => f)
      have hx7 := row8_chg hx6 c7'
      have T7 := T6.new c7'
      have C7 := chg_then C6 c7'
      obtain ⟨gm, cm, rfl, -⟩ : ∃ g cap, v7 = .slice (some ⟨g, 0, none⟩) (n + 1) cap ∧ True := by
        rcases ho7.2 with ⟨_, e⟩ | ⟨g, cap, cur, rfl, _⟩
        · omega
        · exact ⟨g, cap, rfl, trivial⟩
      have HM : Hid (∀ j u, (cells8 (up (List.replicate n 78) ++ [79]))[j]? = some u → w7.cell? ⟨gm, j, none⟩ = some u) := fun j u hu => by
        have := ho7.cells (g := gm) rfl j u hu
        rw [addz] at this
        exact this
      have hv1 := conv8_here (row8_blk by7 n (by rw [up_length]; exact HFL.out) n)
      have hv2 := conv8_here rw7
      rw [HS.out] at hv1 hv2
      clear bx hroom6 rw6 by6 hx6 T6 C6 bxA c7 c7' ho7
      go_wp2_with fail
      refine (held_any gl n cap a c xs w7 hroom7 hx7 hn).mono ?_
      rintro e w8 ⟨rfl, c8⟩
      have T8 := T7.new c8
      have C8 := chg_then C7 c8
      have bx8 := blk_keep bx7 c8 (fun f => f)
      have HM8 : Hid (∀ j u, (cells8 (up (List.replicate n 78) ++ [79]))[j]? = some u → w8.cell? ⟨gm, j, none⟩ = some u) := fun j u hu => cell0_keep (HM.out j u hu) c8
      have HX8 : Hid (w8.heap[w1.heap.size]? = some (.cells (cells8 (up (List.replicate n 78))).toArray 5 (0, 0))) := bx8
      clear c8 T7 C7 bx7 hroom7 rw7 by7 hx7 hv1 hv2 HM bx8
      go_wp2_with fail
      go_loop [16] (fun i => ∃ k : Nat, k ≤ n ∧ i = .int .i64 k) (fun i => n - (intOf i).toNat)
      case atStart => exact ⟨0, by omega, rfl⟩
      case round =>
        obtain ⟨k, hk2, rfl⟩ := hrel
        by_cases hlt2 : k < n
        · have q1 : w8.cell? ⟨gm, k, none⟩ = some (.int .u8 78) := HM8.out k _ (by
            simp only [cells8, up, List.map_append, List.map_replicate]
            rw [List.getElem?_append_left (by simpa using hlt2)]
            simp [hlt2])
          have q2 : w8.cell? ⟨w1.heap.size, k, none⟩ = some (.int .u8 78) := by
            rw [cell_of_row w8 _ k _ 5 (0, 0) HX8.out]
            simp [cells8, up, hlt2]
          have hki : (k : Int) < (n : Int) + 1 := by omega
          go_wp2
          go_round
          case rel => exact ⟨k + 1, by omega, by go_num⟩
          case measure => simp [intOf]; omega
        · obtain rfl : n = k := by omega
          have q1 : w8.cell? ⟨gm, n, none⟩ = some (.int .u8 79) := HM8.out n _ (by simp [cells8, up])
          have hki : (n : Int) < (n : Int) + 1 := by omega
          go_wp2_with fail
          refine (fixed_any w8 T8).mono ?_
          rintro e w9 ⟨rfl, c9⟩
          go_wp2
          go_ret
          exact ⟨rfl, chg_then C8 c9⟩

theorem bits_ex (m : Nat) (hm : m < 4294967296) : ∃ L, Bits m L ∧ L ≤ 32 := by
  by_cases h : m = 0
  · exact ⟨0, ⟨by omega, fun f => by omega⟩, by omega⟩
  · refine ⟨m.log2 + 1, ⟨?_, fun _ => ?_⟩, ?_⟩
    · exact Nat.lt_log2_self
    · rw [Nat.add_sub_cancel]
      exact Nat.log2_self_le h
    · have h1 := Nat.log2_self_le h
      rcases Nat.lt_or_ge m.log2 32 with e | e
      · omega
      · have : 2 ^ 32 ≤ 2 ^ m.log2 := Nat.pow_le_pow_right (by decide) e
        omega

theorem walk (a : Option Addr) (n c : Nat) (xs : List Nat) (at_ : Int) (wa : (Lit.int .i64 at_).wf = true) (mask : Int) (wm : (Lit.int .u32 mask).wf = true) (w0 : World) (T0 : Tab w0) (hx : Row8 w0 a n c (up xs)) (hb : Byt xs) (hn : n ≤ 140737488351232) :
    Calls Tryd.prog 7 #[.slice a n c, .int .i64 at_, .int .u32 mask] w0 fun e w' => e = .returned (.bool true) ∧ Chg (fun _ => False) w0 w' := by
  obtain ⟨x0, x1⟩ := bounds_i64 wa
  obtain ⟨y0, y1⟩ := bounds_u32 wm
  obtain ⟨m, rfl⟩ : ∃ m : Nat, mask = m := ⟨mask.toNat, by omega⟩
  obtain ⟨L, hL, hl⟩ := bits_ex m (by omega)
  by_cases h : 0 ≤ at_ ∧ at_ + L ≤ 8 * n
  · obtain ⟨A, rfl⟩ : ∃ A : Nat, at_ = A := ⟨at_.toNat, by omega⟩
    exact walk_yes a n c xs A m L w0 T0 hx hb hn (by omega) hL hl (by omega)
  · exact walk_no a n c xs at_ m L w0 T0 hx hb hn (by omega) hL hl x0 x1 h

set_option maxRecDepth 100000 in
theorem lifted (os : Os) (started : os.Started) (H : Type) (enc : TypeId × Value → H) :
    ReturnsInHanded {} Tryd.checked os 7 .any (fun w args => (Rows.crcFlipsSpec.pre enc Tryd.prog Tryd.f7 [] false w args ∧ laidMetH Tryd.prog [("pith/crc.half32", Rows.laid_pith_crc_half32), ("pith/crc.half64", Rows.laid_pith_crc_half64)] w) ∧ sizedMet enc Tryd.prog Tryd.f7 (OpenSpec.ofChange Rows.crcFlipsSpec) false w args)
      (Rows.crcFlipsSpec.post enc Tryd.prog Tryd.f7 false true false false) := by
  refine returnsInHanded_of_change_and (C := Tryd.checked) (X := fun w _ => laidMetH Tryd.prog [("pith/crc.half32", Rows.laid_pith_crc_half32), ("pith/crc.half64", Rows.laid_pith_crc_half64)] w) (fun _ _ _ hh h => h.of_heap hh) own started (by kernel_rfl) Tryd.func7
    (ChangeSpec.witness_shaped (enc := enc) (C := Tryd.checked) (os := os) (X := fun w _ => laidMetH Tryd.prog [("pith/crc.half32", Rows.laid_pith_crc_half32), ("pith/crc.half64", Rows.laid_pith_crc_half64)] w) false (World.doorLaid Tryd.prog 400 os) #[.slice none 0 0, .int .i64 0, .int .u32 0] 8 rfl (World.shaped_of_RefB (by kernel_rfl) (by kernel_rfl)) (by kernel_rfl) (by kernel_rfl) (by kernel_rfl) (door_met os _)) ?_
  intro W base args ds gs before hval0 hW _ hsz0 hL _
  have hsz : (DataW.weightsEach Tryd.prog (Tryd.f7.params.toList ++ Rows.crcFlipsSpec.plain.varTypes Tryd.prog) (ds ++ gs)).all (· ≤ reachBytes) = true := hsz0
  clear hsz0
  have hT := tab_of_laid hL
  have hval : ∀ (j : Nat) t v, Tryd.f7.params[j]? = some t → args[j]? = some v → Value.okWide Tryd.prog W .any base t v := hval0
  have hW' := hW
  obtain ⟨p, q, hA0, hV, rfl, hfz, hnd⟩ := hW
  have hA : DataW.TrodAll enc Tryd.prog W 0 (fun _ => true) true Tryd.f7.params.toList args.toList ds p := hA0
  rw [Tryd.params7] at hA hval hsz
  obtain ⟨v0, vs0, d0, ds0, p0, q0, hargs, rfl, rfl, h0, r0⟩ := trodAll_cons hA
  obtain ⟨v1, vs1, d1, ds1, p1, q1, rfl, rfl, rfl, h1, r1⟩ := trodAll_cons r0
  obtain ⟨v2, vs2, d2, ds2, p2, q2, rfl, rfl, rfl, h2, r2⟩ := trodAll_cons r1
  obtain ⟨rfl, rfl, rfl⟩ := trodAll_nil r2
  obtain rfl : args = #[v0, v1, v2] := by cases args; simp_all
  obtain ⟨rfl, rfl⟩ := trodVars_none hV
  obtain ⟨a0, len0, cap0, rfl⟩ := okWide_slice Tryd.underlying22 (hval 0 22 v0 rfl rfl)
  have k0 := h0
  have lt0 : ∀ x ∈ p0, x.block < W.heap.size := by obtain ⟨m, hm⟩ := k0; exact DataW.trod_lt m _ _ _ hm
  obtain ⟨xs0, hx0, hy0, hl0, hcap0⟩ := open8 h0 (fun elems spare e => by subst e; exact sized_slice hsz (j := 0) (t := 22) (e := 5) rfl rfl Tryd.underlying22)
  obtain ⟨a1, rfl, rfl, rfl, w1⟩ := open_int Tryd.underlying3 (hval 1 3 v1 rfl rfl) h1
  obtain ⟨a2, rfl, rfl, rfl, w2⟩ := open_int Tryd.underlying23 (hval 2 23 v2 rfl rfl) h2
  clear hA0 hval0
  refine (walk a0 len0 cap0 xs0 a1 w1 a2 w2 W hT hx0 hy0 (by omega)).mono fun e W' ⟨he, hCC⟩ => ?_
  subst he
  have bel := below_of hCC
  exact ⟨_, rfl, _, _, _, [], _, [], hW', trodAll_mk1 (shut_bool Tryd.underlying4 _), (trodAll_cons_mk (Below.trod laidOut (by kernel_rfl) (of_decide_eq_true (by kernel_rfl)) k0 bel lt0) (trodAll_cons_mk (shut_int Tryd.underlying3 w1) (trodAll_cons_mk (shut_int Tryd.underlying23 w2) trodAll_mk0))), rfl, bel.frame _, fun h => by cases h⟩

theorem over : Rows.CrcFlipsSaid :=
  OpenClaim.holds_of_wide 7 Tryd.f7 rfl rfl rfl rfl rfl rfl rfl ⟨rfl, rfl, rfl, rfl, rfl⟩ rfl rfl rfl rfl rfl (by kernel_rfl) Tryd.func7 (by kernel_rfl)
    (of_decide_eq_true (by kernel_rfl)) (by unfold Func.isWrapper; first | (rw [if_pos (by decide +kernel)]; kernel_rfl) | (rw [if_neg (by decide +kernel)]; exact ⟨rfl, rfl⟩))
    (fun os started H enc _ => lifted os started H enc)

theorem card : Rows.CrcFlipsCardSaid :=
  Claim7.holds_tied_plain_at .later [] [.data, .data] true (true, "ca69a7d00fe7128775994628562602c8ac7e0bcdb440e5576c22203d2800d4d2") false
    over (fun _ h => by cases h) (by kernel_rfl) (fun _ h => by cases h) crcFlips_row_tie rfl ⟨rfl, rfl⟩ (by kernel_rfl) rfl
    (fun f fn hf hfn => by
      obtain rfl : f = 7 := Option.some.inj ((show Tryd.prog.funcNamed "pith/pithlaw03.CrcFlips" = some 7 by kernel_rfl).symm.trans hf) |>.symm
      obtain rfl : fn = Tryd.f7 := (Option.some.inj (Tryd.func7.symm.trans hfn)).symm
      exact ⟨by kernel_rfl, fun j t ht => by
        rw [Tryd.params7] at ht
        have hm : t ∈ [22, 3, 23] := by simpa using Array.mem_of_getElem? ht
        have hall : ([22, 3, 23].all fun u => !Tryd.prog.wantsStandIn u) = true := by kernel_rfl
        exact (show Tryd.prog.wantsStandIn t = false by simpa using List.all_eq_true.1 hall t hm)⟩)
    (by kernel_rfl)
end Go.Proofs.YtmgjbkgooekihaaDoor.crcFlips
namespace Go.Proofs.YtmgjbkgooekihaaDoor
theorem crcFlips_holds : Rows.CrcFlipsCardSaid := crcFlips.card
#print axioms crcFlips_holds
end Go.Proofs.YtmgjbkgooekihaaDoor
