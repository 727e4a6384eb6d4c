/- CrcPatches holds: for every number and every piece handed to the statement's function the call returns true and the arguments read afterwards as they did; the two tables are as the program's text lays them. -/
import Derived.Test.YtmgjbkgooekihabDoorStr
import Derived.Test.YtmgjbkgooekihabDoorRefP
import Derived.Test.YtmgjbkgooekihabDoorUpto
import Derived.Test.YtmgjbkgooekihabDoorCards
import Derived.Test.YtmgjbkgooekihabDoorTie
import Derived.SevenTiedAt
namespace Go.Proofs.YtmgjbkgooekihabDoor.crcPatches
open Go.ChangeShapes Go.WideShapes Go.ChangeAt Go.RowKit
set_option linter.unusedVariables false

theorem World.cell?_at_blk {w : World} {g : Nat} {cs : Array Value} {t : TypeId} (h : w.heap[g]? = some (.cells cs t (0, 0))) (i : Nat) : w.cell? ⟨g, i, none⟩ = cs[i]? := cell_of_row w g i cs t (0, 0) h

theorem low32 (a : Nat) (ha : a < 18446744073709551616) : bits .and .u64 (a : Int) 4294967295 = ((a % 4294967296 : Nat) : Int) := by
  rw [show (4294967295 : Int) = ((4294967295 : Nat) : Int) from rfl, u64_and_nat a 4294967295 ha (by decide)]
  congr 1
  exact Nat.and_two_pow_sub_one_eq_mod a 32

theorem wrap32 (a : Nat) : IntKind.u32.wrap (a : Int) = ((a % 4294967296 : Nat) : Int) := by
  have : IntKind.u32.wrap (a : Int) = (a : Int) % 4294967296 := by simp [IntKind.wrap, IntKind.signed, IntKind.bits]
  rw [this]
  omega

set_option maxHeartbeats 40000000 in
set_option maxRecDepth 100000 in
theorem walk_yes (S k ca cb : Nat) (N Off : Nat) (a b : Option Addr) (xo xn : List Nat) (w0 : World) (T0 : Tab w0) (hS : S < 18446744073709551616) (r_o0 : Row8 w0 a k ca (up xo)) (r_n0 : Row8 w0 b k cb (up xn)) (bo : Byt xo) (bn : Byt xn)
    (n1 : k ≤ 140737488351232) (hn : N ≤ 1099511627776) (ho : Off + k ≤ N) :
    Calls Tryd.prog 5 #[.int .u64 S, .agg #[.int .i64 (N : Int), .int .i64 (Off : Int), .slice a k ca, .slice b k cb]] w0 fun e w' => e = .returned (.bool true) ∧ Chg (fun _ => False) w0 w' := by
  have C0 : Chg (fun _ => False) w0 w0 := Chg.refl _ _
  have cc1 := chg_one w0 (.cells #[.int .i64 (N : Int), .int .i64 (Off : Int), .slice a k ca, .slice b k cb] 46)
  have q1 : (w0.alloc (.cells #[.int .i64 (N : Int), .int .i64 (Off : Int), .slice a k ca, .slice b k cb] 46)).heap[w0.heap.size]? = some (.cells #[.int .i64 (N : Int), .int .i64 (Off : Int), .slice a k ca, .slice b k cb] 46 (0, 0)) := heap_alloc_last _ _
  have e1 := low32 S hS
  have e2 := wrap32 S
  have a1 : S % 4294967296 < 4294967296 := Nat.mod_lt _ (by decide)
  generalize S % 4294967296 = s at *
  have lo : xo.length = k := by rw [← up_length]; exact r_o0.1
  have ln : xn.length = k := by rw [← up_length]; exact r_n0.1
  have LO : Hid (xo.length = k) := lo
  have LN : Hid (xn.length = k) := ln
  clear lo ln
  have hz := Nat.xor_lt_two_pow (n := 32) a1 (Crc.itr_lt (w := 32) Crc.p32_lt (8 * (N - Off - k)) (raw32_lt (diff_byt bo bn) (s := 0) (by decide)))
  generalize g32 : s ^^^ Crc.itr Crc.P32 (8 * (N - Off - k)) (Crc.raw Crc.P32 0 (diff xo xn)) = z32 at *
  have H32 : Hid (s ^^^ Crc.itr Crc.P32 (8 * (N - Off - k)) (Crc.raw Crc.P32 0 (diff xo xn)) = z32) := g32
  generalize g64 : S ^^^ Crc.itr Crc.P64 (8 * (N - Off - k)) (Crc.raw Crc.P64 0 (diff xo xn)) = z64 at *
  have H64 : Hid (S ^^^ Crc.itr Crc.P64 (8 * (N - Off - k)) (Crc.raw Crc.P64 0 (diff xo xn)) = z64) := g64
  clear g32 g64
  go_enter Tryd.func5, Tryd.ntmps5
  have T1 := T0.new cc1
  have C1 := chg_then C0 cc1
  have r_o1 := row8_chg r_o0 cc1
  have r_n1 := row8_chg r_n0 cc1
  clear cc1 T0 C0 r_o0 r_n0
  have f0 := World.cell?_at_blk q1 0
  have f1 := World.cell?_at_blk q1 1
  have f2 := World.cell?_at_blk q1 2
  have f3 := World.cell?_at_blk q1 3
  simp only [List.getElem?_toArray, List.getElem?_cons_zero, List.getElem?_cons_succ] at f0 f1 f2 f3
  go_wp2_with fail
  generalize hwx : w0.alloc (.cells #[.int .i64 (N : Int), .int .i64 (Off : Int), .slice a k ca, .slice b k cb] 46) = w1 at *
  clear hwx
  refine (room_any a k ca xo w1 r_o1 (by omega)).mono ?_
  rintro e w2 ⟨g1, p1, rfl, hr1, gs1, cc⟩
  have T2 := T1.new cc
  have C2 := chg_then C1 cc
  have r_o2 := row8_chg r_o1 cc
  have r_n2 := row8_chg r_n1 cc
  have q2 := blk_keep q1 cc (fun f => f)
  clear cc T1 C1 q1 f0 f1 f2 f3 r_o1 r_n1
  have f0 := World.cell?_at_blk q2 0
  have f1 := World.cell?_at_blk q2 1
  have f2 := World.cell?_at_blk q2 2
  have f3 := World.cell?_at_blk q2 3
  simp only [List.getElem?_toArray, List.getElem?_cons_zero, List.getElem?_cons_succ] at f0 f1 f2 f3
  have fit1 := hr1.fit
  have hq1 := hr1.row
  clear hr1 gs1
  have r_x2 := hq1
  clear hq1
  go_wp2_with fail
  refine (room_any b k cb xn w2 r_n2 (by omega)).mono ?_
  rintro e w3 ⟨g2, p2, rfl, hr2, gs2, cc⟩
  have T3 := T2.new cc
  have C3 := chg_then C2 cc
  have r_o3 := row8_chg r_o2 cc
  have r_n3 := row8_chg r_n2 cc
  have r_x3 := row8_chg r_x2 cc
  have q3 := blk_keep q2 cc (fun f => f)
  clear cc T2 C2 q2 f0 f1 f2 f3 r_o2 r_n2 r_x2
  have f0 := World.cell?_at_blk q3 0
  have f1 := World.cell?_at_blk q3 1
  have f2 := World.cell?_at_blk q3 2
  have f3 := World.cell?_at_blk q3 3
  simp only [List.getElem?_toArray, List.getElem?_cons_zero, List.getElem?_cons_succ] at f0 f1 f2 f3
  have fit2 := hr2.fit
  have hq2 := hr2.row
  clear hr2 gs2
  have r_y3 := hq2
  clear hq2
  go_wp2_with fail
  refine (patch32_any s N Off k _ _ p1 p2 xo xn w3 T3 a1 ((Roomy.mk r_x3 fit1).bytes LO.out) ((Roomy.mk r_y3 fit2).bytes LN.out) bo bn hn ho).mono ?_
  rintro e w4 ⟨rfl, cc⟩
  rw [H32.out]
  have T4 := T3.new cc
  have C4 := chg_then C3 cc
  have r_o4 := row8_chg r_o3 cc
  have r_n4 := row8_chg r_n3 cc
  have r_x4 := row8_chg r_x3 cc
  have r_y4 := row8_chg r_y3 cc
  have q4 := blk_keep q3 cc (fun f => f)
  clear cc T3 C3 q3 f0 f1 f2 f3 r_o3 r_n3 r_x3 r_y3
  have f0 := World.cell?_at_blk q4 0
  have f1 := World.cell?_at_blk q4 1
  have f2 := World.cell?_at_blk q4 2
  have f3 := World.cell?_at_blk q4 3
  simp only [List.getElem?_toArray, List.getElem?_cons_zero, List.getElem?_cons_succ] at f0 f1 f2 f3
  go_wp2_with fail
  refine (refpatch32_any s N Off k a b ca cb xo xn w4 a1 r_o4 r_n4 bo bn hn ho).mono ?_
  rintro e w5 ⟨rfl, cc⟩
  rw [H32.out]
  have T5 := T4.new cc
  have C5 := chg_then C4 cc
  have r_o5 := row8_chg r_o4 cc
  have r_n5 := row8_chg r_n4 cc
  have r_x5 := row8_chg r_x4 cc
  have r_y5 := row8_chg r_y4 cc
  have q5 := blk_keep q4 cc (fun f => f)
  clear cc T4 C4 q4 f0 f1 f2 f3 r_o4 r_n4 r_x4 r_y4
  have f0 := World.cell?_at_blk q5 0
  have f1 := World.cell?_at_blk q5 1
  have f2 := World.cell?_at_blk q5 2
  have f3 := World.cell?_at_blk q5 3
  simp only [List.getElem?_toArray, List.getElem?_cons_zero, List.getElem?_cons_succ] at f0 f1 f2 f3
  go_wp2_with fail
  refine (patch64_any S N Off k _ _ p1 p2 xo xn w5 T5 hS ((Roomy.mk r_x5 fit1).bytes LO.out) ((Roomy.mk r_y5 fit2).bytes LN.out) bo bn hn ho).mono ?_
  rintro e w6 ⟨rfl, cc⟩
  rw [H64.out]
  have T6 := T5.new cc
  have C6 := chg_then C5 cc
  have r_o6 := row8_chg r_o5 cc
  have r_n6 := row8_chg r_n5 cc
  have r_x6 := row8_chg r_x5 cc
  have r_y6 := row8_chg r_y5 cc
  have q6 := blk_keep q5 cc (fun f => f)
  clear cc T5 C5 q5 f0 f1 f2 f3 r_o5 r_n5 r_x5 r_y5
  have f0 := World.cell?_at_blk q6 0
  have f1 := World.cell?_at_blk q6 1
  have f2 := World.cell?_at_blk q6 2
  have f3 := World.cell?_at_blk q6 3
  simp only [List.getElem?_toArray, List.getElem?_cons_zero, List.getElem?_cons_succ] at f0 f1 f2 f3
  go_wp2_with fail
  refine (refpatch64_any S N Off k a b ca cb xo xn w6 hS r_o6 r_n6 bo bn hn ho).mono ?_
  rintro e w7 ⟨rfl, cc⟩
  rw [H64.out]
  have T7 := T6.new cc
  have C7 := chg_then C6 cc
  have r_o7 := row8_chg r_o6 cc
  have r_n7 := row8_chg r_n6 cc
  have r_x7 := row8_chg r_x6 cc
  have r_y7 := row8_chg r_y6 cc
  have q7 := blk_keep q6 cc (fun f => f)
  clear cc T6 C6 q6 f0 f1 f2 f3 r_o6 r_n6 r_x6 r_y6
  have f0 := World.cell?_at_blk q7 0
  have f1 := World.cell?_at_blk q7 1
  have f2 := World.cell?_at_blk q7 2
  have f3 := World.cell?_at_blk q7 3
  simp only [List.getElem?_toArray, List.getElem?_cons_zero, List.getElem?_cons_succ] at f0 f1 f2 f3
  go_wp2_with fail
  refine (held_any g1 k p1 a ca xo w7 ⟨r_x7, fit1⟩ r_o7 n1).mono ?_
  rintro e w8 ⟨rfl, cc⟩
  have T8 := T7.new cc
  have C8 := chg_then C7 cc
  have r_o8 := row8_chg r_o7 cc
  have r_n8 := row8_chg r_n7 cc
  have r_x8 := row8_chg r_x7 cc
  have r_y8 := row8_chg r_y7 cc
  have q8 := blk_keep q7 cc (fun f => f)
  clear cc T7 C7 q7 f0 f1 f2 f3 r_o7 r_n7 r_x7 r_y7
  have f0 := World.cell?_at_blk q8 0
  have f1 := World.cell?_at_blk q8 1
  have f2 := World.cell?_at_blk q8 2
  have f3 := World.cell?_at_blk q8 3
  simp only [List.getElem?_toArray, List.getElem?_cons_zero, List.getElem?_cons_succ] at f0 f1 f2 f3
  go_wp2_with fail
  refine (held_any g2 k p2 b cb xn w8 ⟨r_y8, fit2⟩ r_n8 n1).mono ?_
  rintro e w9 ⟨rfl, cc⟩
  have T9 := T8.new cc
  have C9 := chg_then C8 cc
  have r_o9 := row8_chg r_o8 cc
  have r_n9 := row8_chg r_n8 cc
  have r_x9 := row8_chg r_x8 cc
  have r_y9 := row8_chg r_y8 cc
  have q9 := blk_keep q8 cc (fun f => f)
  clear cc T8 C8 q8 f0 f1 f2 f3 r_o8 r_n8 r_x8 r_y8
  have f0 := World.cell?_at_blk q9 0
  have f1 := World.cell?_at_blk q9 1
  have f2 := World.cell?_at_blk q9 2
  have f3 := World.cell?_at_blk q9 3
  simp only [List.getElem?_toArray, List.getElem?_cons_zero, List.getElem?_cons_succ] at f0 f1 f2 f3
  go_wp2_with fail
  refine (fixed_any w9 T9).mono ?_
  rintro e w10 ⟨rfl, cc⟩
  have T10 := T9.new cc
  have C10 := chg_then C9 cc
  have r_o10 := row8_chg r_o9 cc
  have r_n10 := row8_chg r_n9 cc
  have r_x10 := row8_chg r_x9 cc
  have r_y10 := row8_chg r_y9 cc
  have q10 := blk_keep q9 cc (fun f => f)
  clear cc T9 C9 q9 f0 f1 f2 f3 r_o9 r_n9 r_x9 r_y9
  have f0 := World.cell?_at_blk q10 0
  have f1 := World.cell?_at_blk q10 1
  have f2 := World.cell?_at_blk q10 2
  have f3 := World.cell?_at_blk q10 3
  simp only [List.getElem?_toArray, List.getElem?_cons_zero, List.getElem?_cons_succ] at f0 f1 f2 f3
  go_wp2
  go_ret
  exact ⟨rfl, C10⟩

set_option maxHeartbeats 40000000 in
set_option maxRecDepth 100000 in
theorem walk_no (S k l ca cb : Nat) (N Off : Int) (a b : Option Addr) (xo xn : List Nat) (w0 : World) (T0 : Tab w0) (hS : S < 18446744073709551616) (r_o0 : Row8 w0 a k ca (up xo)) (r_n0 : Row8 w0 b l cb (up xn)) (bo : Byt xo) (bn : Byt xn)
    (n1 : k ≤ 140737488351232) (n2 : l ≤ 140737488351232) (hF : ¬ Fits N Off k l) (o0 : -9223372036854775808 ≤ Off) (o1 : Off ≤ 9223372036854775807) :
    Calls Tryd.prog 5 #[.int .u64 S, .agg #[.int .i64 N, .int .i64 Off, .slice a k ca, .slice b l cb]] w0 fun e w' => e = .returned (.bool true) ∧ Chg (fun _ => False) w0 w' := by
  have C0 : Chg (fun _ => False) w0 w0 := Chg.refl _ _
  have cc1 := chg_one w0 (.cells #[.int .i64 N, .int .i64 Off, .slice a k ca, .slice b l cb] 46)
  have q1 : (w0.alloc (.cells #[.int .i64 N, .int .i64 Off, .slice a k ca, .slice b l cb] 46)).heap[w0.heap.size]? = some (.cells #[.int .i64 N, .int .i64 Off, .slice a k ca, .slice b l cb] 46 (0, 0)) := heap_alloc_last _ _
  have e1 := low32 S hS
  have e2 := wrap32 S
  have a1 : S % 4294967296 < 4294967296 := Nat.mod_lt _ (by decide)
  generalize S % 4294967296 = s at *
  have lo : xo.length = k := by rw [← up_length]; exact r_o0.1
  have ln : xn.length = l := by rw [← up_length]; exact r_n0.1
  have LO : Hid (xo.length = k) := lo
  have LN : Hid (xn.length = l) := ln
  clear lo ln
  have HF : Hid (¬ Fits N Off k l) := hF
  clear hF
  go_enter Tryd.func5, Tryd.ntmps5
  have T1 := T0.new cc1
  have C1 := chg_then C0 cc1
  have r_o1 := row8_chg r_o0 cc1
  have r_n1 := row8_chg r_n0 cc1
  clear cc1 T0 C0 r_o0 r_n0
  have f0 := World.cell?_at_blk q1 0
  have f1 := World.cell?_at_blk q1 1
  have f2 := World.cell?_at_blk q1 2
  have f3 := World.cell?_at_blk q1 3
  simp only [List.getElem?_toArray, List.getElem?_cons_zero, List.getElem?_cons_succ] at f0 f1 f2 f3
  go_wp2_with fail
  generalize hwx : w0.alloc (.cells #[.int .i64 N, .int .i64 Off, .slice a k ca, .slice b l cb] 46) = w1 at *
  clear hwx
  refine (room_any a k ca xo w1 r_o1 (by omega)).mono ?_
  rintro e w2 ⟨g1, p1, rfl, hr1, gs1, cc⟩
  have T2 := T1.new cc
  have C2 := chg_then C1 cc
  have r_o2 := row8_chg r_o1 cc
  have r_n2 := row8_chg r_n1 cc
  have q2 := blk_keep q1 cc (fun f => f)
  clear cc T1 C1 q1 f0 f1 f2 f3 r_o1 r_n1
  have f0 := World.cell?_at_blk q2 0
  have f1 := World.cell?_at_blk q2 1
  have f2 := World.cell?_at_blk q2 2
  have f3 := World.cell?_at_blk q2 3
  simp only [List.getElem?_toArray, List.getElem?_cons_zero, List.getElem?_cons_succ] at f0 f1 f2 f3
  have fit1 := hr1.fit
  have hq1 := hr1.row
  clear hr1 gs1
  have r_x2 := hq1
  clear hq1
  go_wp2_with fail
  refine (room_any b l cb xn w2 r_n2 (by omega)).mono ?_
  rintro e w3 ⟨g2, p2, rfl, hr2, gs2, cc⟩
  have T3 := T2.new cc
  have C3 := chg_then C2 cc
  have r_o3 := row8_chg r_o2 cc
  have r_n3 := row8_chg r_n2 cc
  have r_x3 := row8_chg r_x2 cc
  have q3 := blk_keep q2 cc (fun f => f)
  clear cc T2 C2 q2 f0 f1 f2 f3 r_o2 r_n2 r_x2
  have f0 := World.cell?_at_blk q3 0
  have f1 := World.cell?_at_blk q3 1
  have f2 := World.cell?_at_blk q3 2
  have f3 := World.cell?_at_blk q3 3
  simp only [List.getElem?_toArray, List.getElem?_cons_zero, List.getElem?_cons_succ] at f0 f1 f2 f3
  have fit2 := hr2.fit
  have hq2 := hr2.row
  clear hr2 gs2
  have r_y3 := hq2
  clear hq2
  go_wp2_with fail
  refine (patch32_no s N Off k l _ _ p1 p2 _ HF.out o1 (by omega) (by omega)).mono ?_
  rintro e wx ⟨rfl, rfl⟩
  go_wp2_with fail
  refine (refpatch32_no s N Off k l a b ca cb _ HF.out o0 o1 (by omega) (by omega)).mono ?_
  rintro e wx ⟨rfl, rfl⟩
  go_wp2_with fail
  refine (patch64_no S N Off k l _ _ p1 p2 _ HF.out o1 (by omega) (by omega)).mono ?_
  rintro e wx ⟨rfl, rfl⟩
  go_wp2_with fail
  refine (refpatch64_no S N Off k l a b ca cb _ HF.out o0 o1 (by omega) (by omega)).mono ?_
  rintro e wx ⟨rfl, rfl⟩
  go_wp2_with fail
  refine (held_any g1 k p1 a ca xo w3 ⟨r_x3, fit1⟩ r_o3 n1).mono ?_
  rintro e w4 ⟨rfl, cc⟩
  have T4 := T3.new cc
  have C4 := chg_then C3 cc
  have r_o4 := row8_chg r_o3 cc
  have r_n4 := row8_chg r_n3 cc
  have r_x4 := row8_chg r_x3 cc
  have r_y4 := row8_chg r_y3 cc
  have q4 := blk_keep q3 cc (fun f => f)
  clear cc T3 C3 q3 f0 f1 f2 f3 r_o3 r_n3 r_x3 r_y3
  have f0 := World.cell?_at_blk q4 0
  have f1 := World.cell?_at_blk q4 1
  have f2 := World.cell?_at_blk q4 2
  have f3 := World.cell?_at_blk q4 3
  simp only [List.getElem?_toArray, List.getElem?_cons_zero, List.getElem?_cons_succ] at f0 f1 f2 f3
  go_wp2_with fail
  refine (held_any g2 l p2 b cb xn w4 ⟨r_y4, fit2⟩ r_n4 n2).mono ?_
  rintro e w5 ⟨rfl, cc⟩
  have T5 := T4.new cc
  have C5 := chg_then C4 cc
  have r_o5 := row8_chg r_o4 cc
  have r_n5 := row8_chg r_n4 cc
  have r_x5 := row8_chg r_x4 cc
  have r_y5 := row8_chg r_y4 cc
  have q5 := blk_keep q4 cc (fun f => f)
  clear cc T4 C4 q4 f0 f1 f2 f3 r_o4 r_n4 r_x4 r_y4
  have f0 := World.cell?_at_blk q5 0
  have f1 := World.cell?_at_blk q5 1
  have f2 := World.cell?_at_blk q5 2
  have f3 := World.cell?_at_blk q5 3
  simp only [List.getElem?_toArray, List.getElem?_cons_zero, List.getElem?_cons_succ] at f0 f1 f2 f3
  go_wp2_with fail
  refine (fixed_any w5 T5).mono ?_
  rintro e w6 ⟨rfl, cc⟩
  have T6 := T5.new cc
  have C6 := chg_then C5 cc
  have r_o6 := row8_chg r_o5 cc
  have r_n6 := row8_chg r_n5 cc
  have r_x6 := row8_chg r_x5 cc
  have r_y6 := row8_chg r_y5 cc
  have q6 := blk_keep q5 cc (fun f => f)
  clear cc T5 C5 q5 f0 f1 f2 f3 r_o5 r_n5 r_x5 r_y5
  have f0 := World.cell?_at_blk q6 0
  have f1 := World.cell?_at_blk q6 1
  have f2 := World.cell?_at_blk q6 2
  have f3 := World.cell?_at_blk q6 3
  simp only [List.getElem?_toArray, List.getElem?_cons_zero, List.getElem?_cons_succ] at f0 f1 f2 f3
  go_wp2
  go_ret
  exact ⟨rfl, C6⟩


theorem walk (S N Off : Int) (wS : (Lit.int .u64 S).wf = true) (wO : (Lit.int .i64 Off).wf = true) (k l ca cb : Nat) (a b : Option Addr) (xo xn : List Nat) (w0 : World) (T0 : Tab w0) (ro : Row8 w0 a k ca (up xo)) (rn : Row8 w0 b l cb (up xn)) (bo : Byt xo) (bn : Byt xn)
    (n1 : k ≤ 140737488351232) (n2 : l ≤ 140737488351232) :
    Calls Tryd.prog 5 #[.int .u64 S, .agg #[.int .i64 N, .int .i64 Off, .slice a k ca, .slice b l cb]] w0 fun e w' => e = .returned (.bool true) ∧ Chg (fun _ => False) w0 w' := by
  obtain ⟨x0, x1⟩ := bounds_u64 wS
  obtain ⟨y0, y1⟩ := bounds_i64 wO
  obtain ⟨s, rfl⟩ : ∃ s : Nat, S = s := ⟨S.toNat, by omega⟩
  by_cases h : Fits N Off k l
  · obtain ⟨h1, h2, h3, h4, h5⟩ := h
    subst h4
    obtain ⟨n, rfl⟩ : ∃ n : Nat, N = n := ⟨N.toNat, by omega⟩
    obtain ⟨o, rfl⟩ : ∃ o : Nat, Off = o := ⟨Off.toNat, by omega⟩
    exact walk_yes s k ca cb n o a b xo xn w0 T0 (by omega) ro rn bo bn n1 (by omega) (by omega)
  · exact walk_no s k l ca cb N Off a b xo xn w0 T0 (by omega) ro rn bo bn n1 n2 h y0 y1

theorem cellsP : Tryd.prog.cellsOf 46 = 4 := by kernel_rfl
theorem cellsI : Tryd.prog.cellsOf 3 = 1 := by kernel_rfl

/-- The argument, opened: two numbers, two lists of bytes within the form's own reach. -/
theorem open_piece {H : Type} {enc : TypeId × Value → H} {W : World} {base : Nat} {v : Value} {d : DataW H} {p : List MemPlace} (hv : Value.okWide Tryd.prog W .any base 46 v)
    (h : DataW.Trod enc Tryd.prog W 0 (fun _ => true) true 46 v d p) (hsz : (d.weights Tryd.prog 46).all (· ≤ reachBytes) = true) :
    ∃ N O a b k l ca cb xo xn, v = .agg #[.int .i64 N, .int .i64 O, .slice a k ca, .slice b l cb] ∧ (Lit.int .i64 N).wf = true ∧ (Lit.int .i64 O).wf = true ∧ Row8 W a k ca (up xo) ∧ Row8 W b l cb (up xn) ∧ Byt xo ∧ Byt xn ∧ k ≤ 140737488351232 ∧ l ≤ 140737488351232 := by
  obtain ⟨cs, rfl, hcz⟩ := okWide_struct Tryd.underlying46 hv
  obtain ⟨fuel, hf⟩ := h
  have hf' : DataW.trod enc Tryd.prog W 0 (fun _ => true) true fuel 46 cs.toList = some (d, p) := hf
  obtain ⟨xs, n, _, hd, hl, hlen, hx⟩ := DataW.trod_struct Tryd.underlying46 hf'
  rw [cellsP] at hl
  obtain ⟨l⟩ := cs
  match l, hl with
  | [c0, c1, c2, c3], _ =>
    have hs : xs.length = 4 := by simpa using hlen
    match xs, hs with
    | [y0, y1, y2, y3], _ =>
      have h0 : DataW.trod enc Tryd.prog W 0 (fun _ => true) true n 3 [c0] = some y0 := by have := hx 0 _ rfl; simpa [cellsI] using this
      have h1 : DataW.trod enc Tryd.prog W 0 (fun _ => true) true n 3 [c1] = some y1 := by have := hx 1 _ rfl; simpa [cellsI] using this
      have h2 : DataW.trod enc Tryd.prog W 0 (fun _ => true) true n 36 [c2] = some y2 := by have := hx 2 _ rfl; simpa [cellsB] using this
      have h3 : DataW.trod enc Tryd.prog W 0 (fun _ => true) true n 36 [c3] = some y3 := by have := hx 3 _ rfl; simpa [cellsB] using this
      obtain ⟨N, e0, _, w0⟩ := DataW.trod_int Tryd.underlying3 h0
      obtain ⟨O, e1, _, w1⟩ := DataW.trod_int Tryd.underlying3 h1
      obtain ⟨a2, l2, k2, n2, rfl, r2, b2, m2, -, s2⟩ := open8c h2
      obtain ⟨a3, l3, k3, n3, rfl, r3, b3, m3, -, s3⟩ := open8c h3
      simp only [List.cons.injEq, and_true] at e0 e1
      subst e0 e1
      simp only [Prod.mk.injEq, List.map_cons, List.map_nil] at hd
      have hw : (DataW.weightsEach Tryd.prog [3, 3, 36, 36] [y0.1, y1.1, y2.1, y3.1]).all (· ≤ reachBytes) = true := by
        rw [hd.1] at hsz
        unfold DataW.weights at hsz
        rw [Tryd.underlying46] at hsz
        exact hsz
      have t2 : l2 ≤ 140737488351232 := by
        rcases s2 with e | ⟨el, sp, e, hc⟩
        · omega
        · have := sized_slice hw (j := 2) (t := 36) (e := 5) rfl (by rw [← e]; rfl) Tryd.underlying36
          rw [bytes5] at this
          simp only [reachBytes] at this
          omega
      have t3 : l3 ≤ 140737488351232 := by
        rcases s3 with e | ⟨el, sp, e, hc⟩
        · omega
        · have := sized_slice hw (j := 3) (t := 36) (e := 5) rfl (by rw [← e]; rfl) Tryd.underlying36
          rw [bytes5] at this
          simp only [reachBytes] at this
          omega
      exact ⟨N, O, a2, a3, l2, l3, k2, k3, n2, n3, rfl, w0, w1, r2, r3, b2, b3, t2, t3⟩

set_option maxRecDepth 100000 in
theorem lifted (os : Os) (started : os.Started) (H : Type) (enc : TypeId × Value → H) :
    ReturnsInHanded {} Tryd.checked os 5 .any (fun w args => (Rows.crcPatchesSpec.pre enc Tryd.prog Tryd.f5 [] false w args ∧ laidMetH Tryd.prog [("pith/crc.half32", Rows.laid_pith_crc_half32), ("pith/crc.half64", Rows.laid_pith_crc_half64)] w) ∧ sizedMet enc Tryd.prog Tryd.f5 (OpenSpec.ofChange Rows.crcPatchesSpec) false w args)
      (Rows.crcPatchesSpec.post enc Tryd.prog Tryd.f5 false true false false) := by
  refine returnsInHanded_of_change_and (C := Tryd.checked) (X := fun w _ => laidMetH Tryd.prog [("pith/crc.half32", Rows.laid_pith_crc_half32), ("pith/crc.half64", Rows.laid_pith_crc_half64)] w) (fun _ _ _ hh h => h.of_heap hh) own started (by kernel_rfl) Tryd.func5
    (ChangeSpec.witness_shaped (enc := enc) (C := Tryd.checked) (os := os) (X := fun w _ => laidMetH Tryd.prog [("pith/crc.half32", Rows.laid_pith_crc_half32), ("pith/crc.half64", Rows.laid_pith_crc_half64)] w) false (World.doorLaid Tryd.prog 400 os) #[.int .u64 0, .agg #[.int .i64 0, .int .i64 0, .slice none 0 0, .slice none 0 0]] 8 rfl (World.shaped_of_RefB (by kernel_rfl) (by kernel_rfl)) (by kernel_rfl) (by kernel_rfl) (by kernel_rfl) (door_met os _)) ?_
  intro W base args ds gs before hval0 hW _ hsz0 hL _
  have hsz : (DataW.weightsEach Tryd.prog (Tryd.f5.params.toList ++ Rows.crcPatchesSpec.plain.varTypes Tryd.prog) (ds ++ gs)).all (· ≤ reachBytes) = true := hsz0
  clear hsz0
  have hT := tab_of_laid hL
  have hval : ∀ (j : Nat) t v, Tryd.f5.params[j]? = some t → args[j]? = some v → Value.okWide Tryd.prog W .any base t v := hval0
  have hW' := hW
  obtain ⟨p, q, hA0, hV, rfl, hfz, hnd⟩ := hW
  have hA : DataW.TrodAll enc Tryd.prog W 0 (fun _ => true) true Tryd.f5.params.toList args.toList ds p := hA0
  rw [Tryd.params5] at hA hval hsz
  obtain ⟨v0, vs0, d0, ds0, p0, q0, hargs, rfl, rfl, h0, r0⟩ := trodAll_cons hA
  obtain ⟨v1, vs1, d1, ds1, p1, q1, rfl, rfl, rfl, h1, r1⟩ := trodAll_cons r0
  obtain ⟨rfl, rfl, rfl⟩ := trodAll_nil r1
  obtain rfl : args = #[v0, v1] := by cases args; simp_all
  obtain ⟨rfl, rfl⟩ := trodVars_none hV
  obtain ⟨a0, rfl, rfl, rfl, w0⟩ := open_int Tryd.underlying22 (hval 0 22 v0 rfl rfl) h0
  have k1 := h1
  have lt1 : ∀ x ∈ p1, x.block < W.heap.size := by obtain ⟨m, hm⟩ := k1; exact DataW.trod_lt m _ _ _ hm
  have hw1 : (d1.weights Tryd.prog 46).all (· ≤ reachBytes) = true := List.all_eq_true.2 fun n hn => List.all_eq_true.1 hsz n (DataW.weights_mem_each (j := 1) (t := 46) rfl rfl n hn)
  obtain ⟨N, O, a, b, k, l, ca, cb, xo, xn, rfl, wN, wO, hx0, hx1, hy0, hy1, z0, z1⟩ := open_piece (hval 1 46 v1 rfl rfl) h1 hw1
  clear hA0 hval0
  refine (walk a0 N O w0 wO k l ca cb a b xo xn W hT hx0 hx1 hy0 hy1 z0 z1).mono fun e W' ⟨he, hCC⟩ => ?_
  subst he
  have bel := below_of hCC
  exact ⟨_, rfl, _, _, _, [], _, [], hW', trodAll_mk1 (shut_bool Tryd.underlying4 _), (trodAll_cons_mk (shut_int Tryd.underlying22 w0) (trodAll_cons_mk (Below.trod laidOut (by kernel_rfl) (of_decide_eq_true (by kernel_rfl)) k1 bel lt1) trodAll_mk0)), rfl, bel.frame _, fun h => by cases h⟩

theorem over : Rows.CrcPatchesSaid :=
  OpenClaim.holds_of_wide 5 Tryd.f5 rfl rfl rfl rfl rfl rfl rfl ⟨rfl, rfl, rfl, rfl, rfl⟩ rfl rfl rfl rfl rfl (by kernel_rfl) Tryd.func5 (by kernel_rfl)
    (of_decide_eq_true (by kernel_rfl)) (by unfold Func.isWrapper; first | (rw [if_pos (by decide +kernel)]; kernel_rfl) | (rw [if_neg (by decide +kernel)]; exact ⟨rfl, rfl⟩))
    (fun os started H enc _ => lifted os started H enc)

theorem card : Rows.CrcPatchesCardSaid :=
  Claim7.holds_tied_plain_at .later [] [.data, .data] true (true, "4ff9c66c967b49fa1057ceb63d51399e117fd96427066ea1356f992a2200ad1e") false
    over (fun _ h => by cases h) (by kernel_rfl) (fun _ h => by cases h) crcPatches_row_tie rfl ⟨rfl, rfl⟩ (by kernel_rfl) rfl
    (fun f fn hf hfn => by
      obtain rfl : f = 5 := Option.some.inj ((show Tryd.prog.funcNamed "pith/pithlaw03.CrcPatches" = some 5 by kernel_rfl).symm.trans hf) |>.symm
      obtain rfl : fn = Tryd.f5 := (Option.some.inj (Tryd.func5.symm.trans hfn)).symm
      exact ⟨by kernel_rfl, fun j t ht => by
        rw [Tryd.params5] at ht
        have hm : t ∈ [22, 46] := by simpa using Array.mem_of_getElem? ht
        have hall : ([22, 46].all fun u => !Tryd.prog.wantsStandIn u) = true := by kernel_rfl
        exact (show Tryd.prog.wantsStandIn t = false by simpa using List.all_eq_true.1 hall t hm)⟩)
    (by kernel_rfl)
end Go.Proofs.YtmgjbkgooekihabDoor.crcPatches
namespace Go.Proofs.YtmgjbkgooekihabDoor
theorem crcPatches_holds : Rows.CrcPatchesCardSaid := crcPatches.card
#print axioms crcPatches_holds
end Go.Proofs.YtmgjbkgooekihabDoor
