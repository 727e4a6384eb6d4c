/- CrcPieces holds where what is handed in is of bulk at most 1048576: for every three lists of bytes handed to the statement's function the call returns true and the arguments read afterwards as they did; the bound is the given statement's own, and the two tables are as the program's text lays them. -/
import Derived.Test.YtmgjbkgooekihaaDoorStr
import Derived.Test.YtmgjbkgooekihaaDoorUpto
import Derived.Test.YtmgjbkgooekihaaDoorCards
import Derived.Test.YtmgjbkgooekihaaDoorTie
import Derived.SevenTiedAt
namespace Go.Proofs.YtmgjbkgooekihaaDoor.crcPieces
open Go.ChangeShapes Go.WideShapes Go.ChangeAt Go.RowKit
set_option linter.unusedVariables false

theorem one (xs : List Nat) : [xs].flatten = xs := by simp
theorem two (xs ys : List Nat) : [xs, ys].flatten = xs ++ ys := by simp
theorem three (xs ys zs : List Nat) : [xs, ys, zs].flatten = xs ++ ys ++ zs := by simp

theorem joins (P w : Nat) (x y : List Nat) (l : Nat) (hl : y.length = l) : Crc.itr P (8 * l) (Crc.more P w 0 x) ^^^ Crc.more P w 0 y = Crc.more P w 0 (x ++ y) := by
  rw [Crc.more_append, Crc.more_join P w (Crc.more P w 0 x) y, hl]

theorem mores (P w : Nat) (x y : List Nat) : Crc.more P w (Crc.more P w 0 x) y = Crc.more P w 0 (x ++ y) := (Crc.more_append P w 0 x y).symm

set_option maxHeartbeats 40000000 in
set_option maxRecDepth 100000 in
theorem walk (a b d : Option Addr) (l0 l1 l2 c0 c1 c2 : Nat) (xs ys zs : List Nat) (w0 : World) (T0 : Tab w0) (r_x0 : Row8 w0 a l0 c0 (up xs)) (r_y0 : Row8 w0 b l1 c1 (up ys)) (r_z0 : Row8 w0 d l2 c2 (up zs)) (bx : Byt xs) (bY : Byt ys) (bz : Byt zs)
    (n0 : l0 ≤ 1048576) (n1 : l1 ≤ 1048576) (n2 : l2 ≤ 1048576) :
    Calls Tryd.prog 8 #[.slice a l0 c0, .slice b l1 c1, .slice d l2 c2] w0 fun e w' => e = .returned (.bool true) ∧ Chg (fun _ => False) w0 w' := by
  have C0 : Chg (fun _ => False) w0 w0 := Chg.refl _ _
  have lx : xs.length = l0 := by rw [← up_length]; exact r_x0.1
  have ly : ys.length = l1 := by rw [← up_length]; exact r_y0.1
  have lz : zs.length = l2 := by rw [← up_length]; exact r_z0.1
  obtain ⟨l12, hl12⟩ : ∃ l, l1 + l2 = l := ⟨_, rfl⟩
  have hs12 : (l1 : Int) + (l2 : Int) = (l12 : Int) := by omega
  have hb12 : l12 ≤ 2097152 := by omega
  have bxy : Byt (xs ++ ys) := bx.append bY
  have bxyz : Byt (xs ++ ys ++ zs) := bxy.append bz
  have ja32 := joins Crc.P32 32 xs ys l1 ly
  have jb32 := joins Crc.P32 32 (xs ++ ys) zs l2 lz
  have jc32 := joins Crc.P32 32 ys zs l2 lz
  have jd32 := joins Crc.P32 32 xs (ys ++ zs) l12 (by simp [ly, lz, hl12])
  rw [← List.append_assoc] at jd32
  have jm32 := mores Crc.P32 32 xs ys
  have bX32 := more32_lt (s := 0) bx (by decide)
  have bY32 := more32_lt (s := 0) bY (by decide)
  have bZ32 := more32_lt (s := 0) bz (by decide)
  have bXY32 := more32_lt (s := 0) bxy (by decide)
  have bYZ32 := more32_lt (s := 0) (bY.append bz) (by decide)
  have bXYZ32 := more32_lt (s := 0) bxyz (by decide)
  generalize gXYZ32 : Crc.more Crc.P32 32 0 (xs ++ ys ++ zs) = XYZ32 at *
  have HXYZ32 : Hid (Crc.more Crc.P32 32 0 (xs ++ ys ++ zs) = XYZ32) := gXYZ32
  clear gXYZ32
  generalize gYZ32 : Crc.more Crc.P32 32 0 (ys ++ zs) = YZ32 at *
  have HYZ32 : Hid (Crc.more Crc.P32 32 0 (ys ++ zs) = YZ32) := gYZ32
  clear gYZ32
  generalize gXY32 : Crc.more Crc.P32 32 0 (xs ++ ys) = XY32 at *
  have HXY32 : Hid (Crc.more Crc.P32 32 0 (xs ++ ys) = XY32) := gXY32
  clear gXY32
  generalize gZ32 : Crc.more Crc.P32 32 0 zs = Z32 at *
  have HZ32 : Hid (Crc.more Crc.P32 32 0 zs = Z32) := gZ32
  clear gZ32
  generalize gY32 : Crc.more Crc.P32 32 0 ys = Y32 at *
  have HY32 : Hid (Crc.more Crc.P32 32 0 ys = Y32) := gY32
  clear gY32
  generalize gX32 : Crc.more Crc.P32 32 0 xs = X32 at *
  have HX32 : Hid (Crc.more Crc.P32 32 0 xs = X32) := gX32
  clear gX32
  have Ja32 : Hid (Crc.itr Crc.P32 (8 * l1) X32 ^^^ Y32 = XY32) := ja32
  have Jb32 : Hid (Crc.itr Crc.P32 (8 * l2) XY32 ^^^ Z32 = XYZ32) := jb32
  have Jc32 : Hid (Crc.itr Crc.P32 (8 * l2) Y32 ^^^ Z32 = YZ32) := jc32
  have Jd32 : Hid (Crc.itr Crc.P32 (8 * l12) X32 ^^^ YZ32 = XYZ32) := jd32
  have JM32 : Hid (Crc.more Crc.P32 32 X32 ys = XY32) := jm32
  clear ja32 jb32 jc32 jd32 jm32
  have ja64 := joins Crc.P64 64 xs ys l1 ly
  have jb64 := joins Crc.P64 64 (xs ++ ys) zs l2 lz
  have jc64 := joins Crc.P64 64 ys zs l2 lz
  have jd64 := joins Crc.P64 64 xs (ys ++ zs) l12 (by simp [ly, lz, hl12])
  rw [← List.append_assoc] at jd64
  have jm64 := mores Crc.P64 64 xs ys
  have bX64 := more64_lt (s := 0) bx (by decide)
  have bY64 := more64_lt (s := 0) bY (by decide)
  have bZ64 := more64_lt (s := 0) bz (by decide)
  have bXY64 := more64_lt (s := 0) bxy (by decide)
  have bYZ64 := more64_lt (s := 0) (bY.append bz) (by decide)
  have bXYZ64 := more64_lt (s := 0) bxyz (by decide)
  generalize gXYZ64 : Crc.more Crc.P64 64 0 (xs ++ ys ++ zs) = XYZ64 at *
  have HXYZ64 : Hid (Crc.more Crc.P64 64 0 (xs ++ ys ++ zs) = XYZ64) := gXYZ64
  clear gXYZ64
  generalize gYZ64 : Crc.more Crc.P64 64 0 (ys ++ zs) = YZ64 at *
  have HYZ64 : Hid (Crc.more Crc.P64 64 0 (ys ++ zs) = YZ64) := gYZ64
  clear gYZ64
  generalize gXY64 : Crc.more Crc.P64 64 0 (xs ++ ys) = XY64 at *
  have HXY64 : Hid (Crc.more Crc.P64 64 0 (xs ++ ys) = XY64) := gXY64
  clear gXY64
  generalize gZ64 : Crc.more Crc.P64 64 0 zs = Z64 at *
  have HZ64 : Hid (Crc.more Crc.P64 64 0 zs = Z64) := gZ64
  clear gZ64
  generalize gY64 : Crc.more Crc.P64 64 0 ys = Y64 at *
  have HY64 : Hid (Crc.more Crc.P64 64 0 ys = Y64) := gY64
  clear gY64
  generalize gX64 : Crc.more Crc.P64 64 0 xs = X64 at *
  have HX64 : Hid (Crc.more Crc.P64 64 0 xs = X64) := gX64
  clear gX64
  have Ja64 : Hid (Crc.itr Crc.P64 (8 * l1) X64 ^^^ Y64 = XY64) := ja64
  have Jb64 : Hid (Crc.itr Crc.P64 (8 * l2) XY64 ^^^ Z64 = XYZ64) := jb64
  have Jc64 : Hid (Crc.itr Crc.P64 (8 * l2) Y64 ^^^ Z64 = YZ64) := jc64
  have Jd64 : Hid (Crc.itr Crc.P64 (8 * l12) X64 ^^^ YZ64 = XYZ64) := jd64
  have JM64 : Hid (Crc.more Crc.P64 64 X64 ys = XY64) := jm64
  clear ja64 jb64 jc64 jd64 jm64
  clear hl12
  have LX : Hid (xs.length = l0) := lx
  have LY : Hid (ys.length = l1) := ly
  have LZ : Hid (zs.length = l2) := lz
  clear lx ly lz
  go_enter Tryd.func8, Tryd.ntmps8
  go_wp2_with fail
  refine (joined_any a b l0 c0 l1 c1 xs ys w0 r_x0 r_y0 (by omega)).mono ?_
  rintro e w1 ⟨ad1, k1, rfl, hr1, cc⟩
  have T1 := T0.new cc
  have C1 := chg_then C0 cc
  have r_x1 := row8_chg r_x0 cc
  have r_y1 := row8_chg r_y0 cc
  have r_z1 := row8_chg r_z0 cc
  clear cc T0 C0 r_x0 r_y0 r_z0
  have r_p1 := hr1
  clear hr1
  go_wp2_with fail
  refine (joined_any ad1 d (l0 + l1) k1 l2 c2 (xs ++ ys) zs w1 r_p1 r_z1 (by omega)).mono ?_
  rintro e w2 ⟨ad2, k2, rfl, hr2, cc⟩
  have T2 := T1.new cc
  have C2 := chg_then C1 cc
  have r_x2 := row8_chg r_x1 cc
  have r_y2 := row8_chg r_y1 cc
  have r_z2 := row8_chg r_z1 cc
  have r_p2 := row8_chg r_p1 cc
  clear cc T1 C1 r_x1 r_y1 r_z1 r_p1
  have r_q2 := hr2
  clear hr2
  go_wp2_with fail
  refine (sum32_any _ 1 1 [xs] _ (T2.new (chg_one w2 _)) (pieces_one 22 ⟨_, _, _, rfl, r_x2, bx, by omega⟩) rfl (by decide)).mono ?_
  rintro e wx ⟨rfl, rfl⟩
  rw [one, HX32.out]
  have cc := chg_one w2 (.cells #[.slice a l0 c0] 22)
  have T3 := T2.new cc
  have C3 := chg_then C2 cc
  have r_x3 := row8_chg r_x2 cc
  have r_y3 := row8_chg r_y2 cc
  have r_z3 := row8_chg r_z2 cc
  have r_p3 := row8_chg r_p2 cc
  have r_q3 := row8_chg r_q2 cc
  clear cc T2 C2 r_x2 r_y2 r_z2 r_p2 r_q2
  generalize hwx : w2.alloc (.cells #[.slice a l0 c0] 22) = w3 at *
  clear hwx
  go_wp2_with fail
  refine (sum32_any _ 1 1 [ys] _ (T3.new (chg_one w3 _)) (pieces_one 22 ⟨_, _, _, rfl, r_y3, bY, by omega⟩) rfl (by decide)).mono ?_
  rintro e wx ⟨rfl, rfl⟩
  rw [one, HY32.out]
  have cc := chg_one w3 (.cells #[.slice b l1 c1] 22)
  have T4 := T3.new cc
  have C4 := chg_then C3 cc
  have r_x4 := row8_chg r_x3 cc
  have r_y4 := row8_chg r_y3 cc
  have r_z4 := row8_chg r_z3 cc
  have r_p4 := row8_chg r_p3 cc
  have r_q4 := row8_chg r_q3 cc
  clear cc T3 C3 r_x3 r_y3 r_z3 r_p3 r_q3
  generalize hwx : w3.alloc (.cells #[.slice b l1 c1] 22) = w4 at *
  clear hwx
  go_wp2_with fail
  refine (join32_yes X32 Y32 l1 w4 T4 bX32 bY32 (by omega)).mono ?_
  rintro e w5 ⟨rfl, cc⟩
  rw [Ja32.out]
  have T5 := T4.new cc
  have C5 := chg_then C4 cc
  have r_x5 := row8_chg r_x4 cc
  have r_y5 := row8_chg r_y4 cc
  have r_z5 := row8_chg r_z4 cc
  have r_p5 := row8_chg r_p4 cc
  have r_q5 := row8_chg r_q4 cc
  clear cc T4 C4 r_x4 r_y4 r_z4 r_p4 r_q4
  go_wp2_with fail
  refine (sum64_any _ 1 1 [xs] _ (T5.new (chg_one w5 _)) (pieces_one 22 ⟨_, _, _, rfl, r_x5, bx, by omega⟩) rfl (by decide)).mono ?_
  rintro e wx ⟨rfl, rfl⟩
  rw [one, HX64.out]
  have cc := chg_one w5 (.cells #[.slice a l0 c0] 22)
  have T6 := T5.new cc
  have C6 := chg_then C5 cc
  have r_x6 := row8_chg r_x5 cc
  have r_y6 := row8_chg r_y5 cc
  have r_z6 := row8_chg r_z5 cc
  have r_p6 := row8_chg r_p5 cc
  have r_q6 := row8_chg r_q5 cc
  clear cc T5 C5 r_x5 r_y5 r_z5 r_p5 r_q5
  generalize hwx : w5.alloc (.cells #[.slice a l0 c0] 22) = w6 at *
  clear hwx
  go_wp2_with fail
  refine (sum64_any _ 1 1 [ys] _ (T6.new (chg_one w6 _)) (pieces_one 22 ⟨_, _, _, rfl, r_y6, bY, by omega⟩) rfl (by decide)).mono ?_
  rintro e wx ⟨rfl, rfl⟩
  rw [one, HY64.out]
  have cc := chg_one w6 (.cells #[.slice b l1 c1] 22)
  have T7 := T6.new cc
  have C7 := chg_then C6 cc
  have r_x7 := row8_chg r_x6 cc
  have r_y7 := row8_chg r_y6 cc
  have r_z7 := row8_chg r_z6 cc
  have r_p7 := row8_chg r_p6 cc
  have r_q7 := row8_chg r_q6 cc
  clear cc T6 C6 r_x6 r_y6 r_z6 r_p6 r_q6
  generalize hwx : w6.alloc (.cells #[.slice b l1 c1] 22) = w7 at *
  clear hwx
  go_wp2_with fail
  refine (join64_yes X64 Y64 l1 w7 T7 bX64 bY64 (by omega)).mono ?_
  rintro e w8 ⟨rfl, cc⟩
  rw [Ja64.out]
  have T8 := T7.new cc
  have C8 := chg_then C7 cc
  have r_x8 := row8_chg r_x7 cc
  have r_y8 := row8_chg r_y7 cc
  have r_z8 := row8_chg r_z7 cc
  have r_p8 := row8_chg r_p7 cc
  have r_q8 := row8_chg r_q7 cc
  clear cc T7 C7 r_x7 r_y7 r_z7 r_p7 r_q7
  go_wp2_with fail
  refine (sum32_any _ 2 2 [xs, ys] _ (T8.new (chg_one w8 _)) (pieces_two 22 ⟨_, _, _, rfl, r_x8, bx, by omega⟩ ⟨_, _, _, rfl, r_y8, bY, by omega⟩) rfl (by decide)).mono ?_
  rintro e wx ⟨rfl, rfl⟩
  rw [two, HXY32.out]
  have cc := chg_one w8 (.cells #[.slice a l0 c0, .slice b l1 c1] 22)
  have T9 := T8.new cc
  have C9 := chg_then C8 cc
  have r_x9 := row8_chg r_x8 cc
  have r_y9 := row8_chg r_y8 cc
  have r_z9 := row8_chg r_z8 cc
  have r_p9 := row8_chg r_p8 cc
  have r_q9 := row8_chg r_q8 cc
  clear cc T8 C8 r_x8 r_y8 r_z8 r_p8 r_q8
  generalize hwx : w8.alloc (.cells #[.slice a l0 c0, .slice b l1 c1] 22) = w9 at *
  clear hwx
  go_wp2_with fail
  refine (sum64_any _ 2 2 [xs, ys] _ (T9.new (chg_one w9 _)) (pieces_two 22 ⟨_, _, _, rfl, r_x9, bx, by omega⟩ ⟨_, _, _, rfl, r_y9, bY, by omega⟩) rfl (by decide)).mono ?_
  rintro e wx ⟨rfl, rfl⟩
  rw [two, HXY64.out]
  have cc := chg_one w9 (.cells #[.slice a l0 c0, .slice b l1 c1] 22)
  have T10 := T9.new cc
  have C10 := chg_then C9 cc
  have r_x10 := row8_chg r_x9 cc
  have r_y10 := row8_chg r_y9 cc
  have r_z10 := row8_chg r_z9 cc
  have r_p10 := row8_chg r_p9 cc
  have r_q10 := row8_chg r_q9 cc
  clear cc T9 C9 r_x9 r_y9 r_z9 r_p9 r_q9
  generalize hwx : w9.alloc (.cells #[.slice a l0 c0, .slice b l1 c1] 22) = w10 at *
  clear hwx
  go_wp2_with fail
  refine (sum32_any _ 3 3 [xs, ys, zs] _ (T10.new (chg_one w10 _)) (pieces_three 22 ⟨_, _, _, rfl, r_x10, bx, by omega⟩ ⟨_, _, _, rfl, r_y10, bY, by omega⟩ ⟨_, _, _, rfl, r_z10, bz, by omega⟩) rfl (by decide)).mono ?_
  rintro e wx ⟨rfl, rfl⟩
  rw [three, HXYZ32.out]
  have cc := chg_one w10 (.cells #[.slice a l0 c0, .slice b l1 c1, .slice d l2 c2] 22)
  have T11 := T10.new cc
  have C11 := chg_then C10 cc
  have r_x11 := row8_chg r_x10 cc
  have r_y11 := row8_chg r_y10 cc
  have r_z11 := row8_chg r_z10 cc
  have r_p11 := row8_chg r_p10 cc
  have r_q11 := row8_chg r_q10 cc
  clear cc T10 C10 r_x10 r_y10 r_z10 r_p10 r_q10
  generalize hwx : w10.alloc (.cells #[.slice a l0 c0, .slice b l1 c1, .slice d l2 c2] 22) = w11 at *
  clear hwx
  go_wp2_with fail
  refine (sum32_any _ 1 1 [xs ++ ys ++ zs] _ (T11.new (chg_one w11 _)) (pieces_one 22 ⟨_, _, _, rfl, r_q11, bxyz, by omega⟩) rfl (by decide)).mono ?_
  rintro e wx ⟨rfl, rfl⟩
  rw [one, HXYZ32.out]
  have cc := chg_one w11 (.cells #[.slice ad2 (l0 + l1 + l2) k2] 22)
  have T12 := T11.new cc
  have C12 := chg_then C11 cc
  have r_x12 := row8_chg r_x11 cc
  have r_y12 := row8_chg r_y11 cc
  have r_z12 := row8_chg r_z11 cc
  have r_p12 := row8_chg r_p11 cc
  have r_q12 := row8_chg r_q11 cc
  clear cc T11 C11 r_x11 r_y11 r_z11 r_p11 r_q11
  generalize hwx : w11.alloc (.cells #[.slice ad2 (l0 + l1 + l2) k2] 22) = w12 at *
  clear hwx
  go_wp2_with fail
  refine (sum64_any _ 3 3 [xs, ys, zs] _ (T12.new (chg_one w12 _)) (pieces_three 22 ⟨_, _, _, rfl, r_x12, bx, by omega⟩ ⟨_, _, _, rfl, r_y12, bY, by omega⟩ ⟨_, _, _, rfl, r_z12, bz, by omega⟩) rfl (by decide)).mono ?_
  rintro e wx ⟨rfl, rfl⟩
  rw [three, HXYZ64.out]
  have cc := chg_one w12 (.cells #[.slice a l0 c0, .slice b l1 c1, .slice d l2 c2] 22)
  have T13 := T12.new cc
  have C13 := chg_then C12 cc
  have r_x13 := row8_chg r_x12 cc
  have r_y13 := row8_chg r_y12 cc
  have r_z13 := row8_chg r_z12 cc
  have r_p13 := row8_chg r_p12 cc
  have r_q13 := row8_chg r_q12 cc
  clear cc T12 C12 r_x12 r_y12 r_z12 r_p12 r_q12
  generalize hwx : w12.alloc (.cells #[.slice a l0 c0, .slice b l1 c1, .slice d l2 c2] 22) = w13 at *
  clear hwx
  go_wp2_with fail
  refine (sum64_any _ 1 1 [xs ++ ys ++ zs] _ (T13.new (chg_one w13 _)) (pieces_one 22 ⟨_, _, _, rfl, r_q13, bxyz, by omega⟩) rfl (by decide)).mono ?_
  rintro e wx ⟨rfl, rfl⟩
  rw [one, HXYZ64.out]
  have cc := chg_one w13 (.cells #[.slice ad2 (l0 + l1 + l2) k2] 22)
  have T14 := T13.new cc
  have C14 := chg_then C13 cc
  have r_x14 := row8_chg r_x13 cc
  have r_y14 := row8_chg r_y13 cc
  have r_z14 := row8_chg r_z13 cc
  have r_p14 := row8_chg r_p13 cc
  have r_q14 := row8_chg r_q13 cc
  clear cc T13 C13 r_x13 r_y13 r_z13 r_p13 r_q13
  generalize hwx : w13.alloc (.cells #[.slice ad2 (l0 + l1 + l2) k2] 22) = w14 at *
  clear hwx
  go_wp2_with fail
  refine (sum32_any _ 1 1 [xs ++ ys] _ (T14.new (chg_one w14 _)) (pieces_one 22 ⟨_, _, _, rfl, r_p14, bxy, by omega⟩) rfl (by decide)).mono ?_
  rintro e wx ⟨rfl, rfl⟩
  rw [one, HXY32.out]
  have cc := chg_one w14 (.cells #[.slice ad1 (l0 + l1) k1] 22)
  have T15 := T14.new cc
  have C15 := chg_then C14 cc
  have r_x15 := row8_chg r_x14 cc
  have r_y15 := row8_chg r_y14 cc
  have r_z15 := row8_chg r_z14 cc
  have r_p15 := row8_chg r_p14 cc
  have r_q15 := row8_chg r_q14 cc
  clear cc T14 C14 r_x14 r_y14 r_z14 r_p14 r_q14
  generalize hwx : w14.alloc (.cells #[.slice ad1 (l0 + l1) k1] 22) = w15 at *
  clear hwx
  go_wp2_with fail
  refine (sum64_any _ 1 1 [xs ++ ys] _ (T15.new (chg_one w15 _)) (pieces_one 22 ⟨_, _, _, rfl, r_p15, bxy, by omega⟩) rfl (by decide)).mono ?_
  rintro e wx ⟨rfl, rfl⟩
  rw [one, HXY64.out]
  have cc := chg_one w15 (.cells #[.slice ad1 (l0 + l1) k1] 22)
  have T16 := T15.new cc
  have C16 := chg_then C15 cc
  have r_x16 := row8_chg r_x15 cc
  have r_y16 := row8_chg r_y15 cc
  have r_z16 := row8_chg r_z15 cc
  have r_p16 := row8_chg r_p15 cc
  have r_q16 := row8_chg r_q15 cc
  clear cc T15 C15 r_x15 r_y15 r_z15 r_p15 r_q15
  generalize hwx : w15.alloc (.cells #[.slice ad1 (l0 + l1) k1] 22) = w16 at *
  clear hwx
  go_wp2_with fail
  refine (sum32_any _ 1 1 [xs] _ (T16.new (chg_one w16 _)) (pieces_one 22 ⟨_, _, _, rfl, r_x16, bx, by omega⟩) rfl (by decide)).mono ?_
  rintro e wx ⟨rfl, rfl⟩
  rw [one, HX32.out]
  have cc := chg_one w16 (.cells #[.slice a l0 c0] 22)
  have T17 := T16.new cc
  have C17 := chg_then C16 cc
  have r_x17 := row8_chg r_x16 cc
  have r_y17 := row8_chg r_y16 cc
  have r_z17 := row8_chg r_z16 cc
  have r_p17 := row8_chg r_p16 cc
  have r_q17 := row8_chg r_q16 cc
  clear cc T16 C16 r_x16 r_y16 r_z16 r_p16 r_q16
  generalize hwx : w16.alloc (.cells #[.slice a l0 c0] 22) = w17 at *
  clear hwx
  go_wp2_with fail
  refine (more32_any X32 b l1 c1 ys w17 T17 bX32 r_y17 bY (by omega)).mono ?_
  rintro e wx ⟨rfl, rfl⟩
  rw [JM32.out]
  go_wp2_with fail
  refine (sum64_any _ 1 1 [xs] _ (T17.new (chg_one w17 _)) (pieces_one 22 ⟨_, _, _, rfl, r_x17, bx, by omega⟩) rfl (by decide)).mono ?_
  rintro e wx ⟨rfl, rfl⟩
  rw [one, HX64.out]
  have cc := chg_one w17 (.cells #[.slice a l0 c0] 22)
  have T18 := T17.new cc
  have C18 := chg_then C17 cc
  have r_x18 := row8_chg r_x17 cc
  have r_y18 := row8_chg r_y17 cc
  have r_z18 := row8_chg r_z17 cc
  have r_p18 := row8_chg r_p17 cc
  have r_q18 := row8_chg r_q17 cc
  clear cc T17 C17 r_x17 r_y17 r_z17 r_p17 r_q17
  generalize hwx : w17.alloc (.cells #[.slice a l0 c0] 22) = w18 at *
  clear hwx
  go_wp2_with fail
  refine (more64_any X64 b l1 c1 ys w18 T18 bX64 r_y18 bY (by omega)).mono ?_
  rintro e wx ⟨rfl, rfl⟩
  rw [JM64.out]
  go_wp2_with fail
  refine (sum32_any _ 1 1 [zs] _ (T18.new (chg_one w18 _)) (pieces_one 22 ⟨_, _, _, rfl, r_z18, bz, by omega⟩) rfl (by decide)).mono ?_
  rintro e wx ⟨rfl, rfl⟩
  rw [one, HZ32.out]
  have cc := chg_one w18 (.cells #[.slice d l2 c2] 22)
  have T19 := T18.new cc
  have C19 := chg_then C18 cc
  have r_x19 := row8_chg r_x18 cc
  have r_y19 := row8_chg r_y18 cc
  have r_z19 := row8_chg r_z18 cc
  have r_p19 := row8_chg r_p18 cc
  have r_q19 := row8_chg r_q18 cc
  clear cc T18 C18 r_x18 r_y18 r_z18 r_p18 r_q18
  generalize hwx : w18.alloc (.cells #[.slice d l2 c2] 22) = w19 at *
  clear hwx
  go_wp2_with fail
  refine (join32_yes XY32 Z32 l2 w19 T19 bXY32 bZ32 (by omega)).mono ?_
  rintro e w20 ⟨rfl, cc⟩
  rw [Jb32.out]
  have T20 := T19.new cc
  have C20 := chg_then C19 cc
  have r_x20 := row8_chg r_x19 cc
  have r_y20 := row8_chg r_y19 cc
  have r_z20 := row8_chg r_z19 cc
  have r_p20 := row8_chg r_p19 cc
  have r_q20 := row8_chg r_q19 cc
  clear cc T19 C19 r_x19 r_y19 r_z19 r_p19 r_q19
  go_wp2_with fail
  refine (sum64_any _ 1 1 [zs] _ (T20.new (chg_one w20 _)) (pieces_one 22 ⟨_, _, _, rfl, r_z20, bz, by omega⟩) rfl (by decide)).mono ?_
  rintro e wx ⟨rfl, rfl⟩
  rw [one, HZ64.out]
  have cc := chg_one w20 (.cells #[.slice d l2 c2] 22)
  have T21 := T20.new cc
  have C21 := chg_then C20 cc
  have r_x21 := row8_chg r_x20 cc
  have r_y21 := row8_chg r_y20 cc
  have r_z21 := row8_chg r_z20 cc
  have r_p21 := row8_chg r_p20 cc
  have r_q21 := row8_chg r_q20 cc
  clear cc T20 C20 r_x20 r_y20 r_z20 r_p20 r_q20
  generalize hwx : w20.alloc (.cells #[.slice d l2 c2] 22) = w21 at *
  clear hwx
  go_wp2_with fail
  refine (join64_yes XY64 Z64 l2 w21 T21 bXY64 bZ64 (by omega)).mono ?_
  rintro e w22 ⟨rfl, cc⟩
  rw [Jb64.out]
  have T22 := T21.new cc
  have C22 := chg_then C21 cc
  have r_x22 := row8_chg r_x21 cc
  have r_y22 := row8_chg r_y21 cc
  have r_z22 := row8_chg r_z21 cc
  have r_p22 := row8_chg r_p21 cc
  have r_q22 := row8_chg r_q21 cc
  clear cc T21 C21 r_x21 r_y21 r_z21 r_p21 r_q21
  go_wp2_with fail
  refine (sum32_any _ 1 1 [xs ++ ys ++ zs] _ (T22.new (chg_one w22 _)) (pieces_one 22 ⟨_, _, _, rfl, r_q22, bxyz, by omega⟩) rfl (by decide)).mono ?_
  rintro e wx ⟨rfl, rfl⟩
  rw [one, HXYZ32.out]
  have cc := chg_one w22 (.cells #[.slice ad2 (l0 + l1 + l2) k2] 22)
  have T23 := T22.new cc
  have C23 := chg_then C22 cc
  have r_x23 := row8_chg r_x22 cc
  have r_y23 := row8_chg r_y22 cc
  have r_z23 := row8_chg r_z22 cc
  have r_p23 := row8_chg r_p22 cc
  have r_q23 := row8_chg r_q22 cc
  clear cc T22 C22 r_x22 r_y22 r_z22 r_p22 r_q22
  generalize hwx : w22.alloc (.cells #[.slice ad2 (l0 + l1 + l2) k2] 22) = w23 at *
  clear hwx
  go_wp2_with fail
  refine (sum64_any _ 1 1 [xs ++ ys ++ zs] _ (T23.new (chg_one w23 _)) (pieces_one 22 ⟨_, _, _, rfl, r_q23, bxyz, by omega⟩) rfl (by decide)).mono ?_
  rintro e wx ⟨rfl, rfl⟩
  rw [one, HXYZ64.out]
  have cc := chg_one w23 (.cells #[.slice ad2 (l0 + l1 + l2) k2] 22)
  have T24 := T23.new cc
  have C24 := chg_then C23 cc
  have r_x24 := row8_chg r_x23 cc
  have r_y24 := row8_chg r_y23 cc
  have r_z24 := row8_chg r_z23 cc
  have r_p24 := row8_chg r_p23 cc
  have r_q24 := row8_chg r_q23 cc
  clear cc T23 C23 r_x23 r_y23 r_z23 r_p23 r_q23
  generalize hwx : w23.alloc (.cells #[.slice ad2 (l0 + l1 + l2) k2] 22) = w24 at *
  clear hwx
  go_wp2_with fail
  refine (sum32_any _ 1 1 [ys] _ (T24.new (chg_one w24 _)) (pieces_one 22 ⟨_, _, _, rfl, r_y24, bY, by omega⟩) rfl (by decide)).mono ?_
  rintro e wx ⟨rfl, rfl⟩
  rw [one, HY32.out]
  have cc := chg_one w24 (.cells #[.slice b l1 c1] 22)
  have T25 := T24.new cc
  have C25 := chg_then C24 cc
  have r_x25 := row8_chg r_x24 cc
  have r_y25 := row8_chg r_y24 cc
  have r_z25 := row8_chg r_z24 cc
  have r_p25 := row8_chg r_p24 cc
  have r_q25 := row8_chg r_q24 cc
  clear cc T24 C24 r_x24 r_y24 r_z24 r_p24 r_q24
  generalize hwx : w24.alloc (.cells #[.slice b l1 c1] 22) = w25 at *
  clear hwx
  go_wp2_with fail
  refine (sum32_any _ 1 1 [zs] _ (T25.new (chg_one w25 _)) (pieces_one 22 ⟨_, _, _, rfl, r_z25, bz, by omega⟩) rfl (by decide)).mono ?_
  rintro e wx ⟨rfl, rfl⟩
  rw [one, HZ32.out]
  have cc := chg_one w25 (.cells #[.slice d l2 c2] 22)
  have T26 := T25.new cc
  have C26 := chg_then C25 cc
  have r_x26 := row8_chg r_x25 cc
  have r_y26 := row8_chg r_y25 cc
  have r_z26 := row8_chg r_z25 cc
  have r_p26 := row8_chg r_p25 cc
  have r_q26 := row8_chg r_q25 cc
  clear cc T25 C25 r_x25 r_y25 r_z25 r_p25 r_q25
  generalize hwx : w25.alloc (.cells #[.slice d l2 c2] 22) = w26 at *
  clear hwx
  go_wp2_with fail
  refine (join32_yes Y32 Z32 l2 w26 T26 bY32 bZ32 (by omega)).mono ?_
  rintro e w27 ⟨rfl, cc⟩
  rw [Jc32.out]
  have T27 := T26.new cc
  have C27 := chg_then C26 cc
  have r_x27 := row8_chg r_x26 cc
  have r_y27 := row8_chg r_y26 cc
  have r_z27 := row8_chg r_z26 cc
  have r_p27 := row8_chg r_p26 cc
  have r_q27 := row8_chg r_q26 cc
  clear cc T26 C26 r_x26 r_y26 r_z26 r_p26 r_q26
  go_wp2_with fail
  refine (sum64_any _ 1 1 [ys] _ (T27.new (chg_one w27 _)) (pieces_one 22 ⟨_, _, _, rfl, r_y27, bY, by omega⟩) rfl (by decide)).mono ?_
  rintro e wx ⟨rfl, rfl⟩
  rw [one, HY64.out]
  have cc := chg_one w27 (.cells #[.slice b l1 c1] 22)
  have T28 := T27.new cc
  have C28 := chg_then C27 cc
  have r_x28 := row8_chg r_x27 cc
  have r_y28 := row8_chg r_y27 cc
  have r_z28 := row8_chg r_z27 cc
  have r_p28 := row8_chg r_p27 cc
  have r_q28 := row8_chg r_q27 cc
  clear cc T27 C27 r_x27 r_y27 r_z27 r_p27 r_q27
  generalize hwx : w27.alloc (.cells #[.slice b l1 c1] 22) = w28 at *
  clear hwx
  go_wp2_with fail
  refine (sum64_any _ 1 1 [zs] _ (T28.new (chg_one w28 _)) (pieces_one 22 ⟨_, _, _, rfl, r_z28, bz, by omega⟩) rfl (by decide)).mono ?_
  rintro e wx ⟨rfl, rfl⟩
  rw [one, HZ64.out]
  have cc := chg_one w28 (.cells #[.slice d l2 c2] 22)
  have T29 := T28.new cc
  have C29 := chg_then C28 cc
  have r_x29 := row8_chg r_x28 cc
  have r_y29 := row8_chg r_y28 cc
  have r_z29 := row8_chg r_z28 cc
  have r_p29 := row8_chg r_p28 cc
  have r_q29 := row8_chg r_q28 cc
  clear cc T28 C28 r_x28 r_y28 r_z28 r_p28 r_q28
  generalize hwx : w28.alloc (.cells #[.slice d l2 c2] 22) = w29 at *
  clear hwx
  go_wp2_with fail
  refine (join64_yes Y64 Z64 l2 w29 T29 bY64 bZ64 (by omega)).mono ?_
  rintro e w30 ⟨rfl, cc⟩
  rw [Jc64.out]
  have T30 := T29.new cc
  have C30 := chg_then C29 cc
  have r_x30 := row8_chg r_x29 cc
  have r_y30 := row8_chg r_y29 cc
  have r_z30 := row8_chg r_z29 cc
  have r_p30 := row8_chg r_p29 cc
  have r_q30 := row8_chg r_q29 cc
  clear cc T29 C29 r_x29 r_y29 r_z29 r_p29 r_q29
  go_wp2_with fail
  refine (sum32_any _ 1 1 [xs] _ (T30.new (chg_one w30 _)) (pieces_one 22 ⟨_, _, _, rfl, r_x30, bx, by omega⟩) rfl (by decide)).mono ?_
  rintro e wx ⟨rfl, rfl⟩
  rw [one, HX32.out]
  have cc := chg_one w30 (.cells #[.slice a l0 c0] 22)
  have T31 := T30.new cc
  have C31 := chg_then C30 cc
  have r_x31 := row8_chg r_x30 cc
  have r_y31 := row8_chg r_y30 cc
  have r_z31 := row8_chg r_z30 cc
  have r_p31 := row8_chg r_p30 cc
  have r_q31 := row8_chg r_q30 cc
  clear cc T30 C30 r_x30 r_y30 r_z30 r_p30 r_q30
  generalize hwx : w30.alloc (.cells #[.slice a l0 c0] 22) = w31 at *
  clear hwx
  go_wp2_with fail
  refine (join32_yes X32 YZ32 l12 w31 T31 bX32 bYZ32 (by omega)).mono ?_
  rintro e w32 ⟨rfl, cc⟩
  rw [Jd32.out]
  have T32 := T31.new cc
  have C32 := chg_then C31 cc
  have r_x32 := row8_chg r_x31 cc
  have r_y32 := row8_chg r_y31 cc
  have r_z32 := row8_chg r_z31 cc
  have r_p32 := row8_chg r_p31 cc
  have r_q32 := row8_chg r_q31 cc
  clear cc T31 C31 r_x31 r_y31 r_z31 r_p31 r_q31
  go_wp2_with fail
  refine (sum64_any _ 1 1 [xs] _ (T32.new (chg_one w32 _)) (pieces_one 22 ⟨_, _, _, rfl, r_x32, bx, by omega⟩) rfl (by decide)).mono ?_
  rintro e wx ⟨rfl, rfl⟩
  rw [one, HX64.out]
  have cc := chg_one w32 (.cells #[.slice a l0 c0] 22)
  have T33 := T32.new cc
  have C33 := chg_then C32 cc
  have r_x33 := row8_chg r_x32 cc
  have r_y33 := row8_chg r_y32 cc
  have r_z33 := row8_chg r_z32 cc
  have r_p33 := row8_chg r_p32 cc
  have r_q33 := row8_chg r_q32 cc
  clear cc T32 C32 r_x32 r_y32 r_z32 r_p32 r_q32
  generalize hwx : w32.alloc (.cells #[.slice a l0 c0] 22) = w33 at *
  clear hwx
  go_wp2_with fail
  refine (join64_yes X64 YZ64 l12 w33 T33 bX64 bYZ64 (by omega)).mono ?_
  rintro e w34 ⟨rfl, cc⟩
  rw [Jd64.out]
  have T34 := T33.new cc
  have C34 := chg_then C33 cc
  have r_x34 := row8_chg r_x33 cc
  have r_y34 := row8_chg r_y33 cc
  have r_z34 := row8_chg r_z33 cc
  have r_p34 := row8_chg r_p33 cc
  have r_q34 := row8_chg r_q33 cc
  clear cc T33 C33 r_x33 r_y33 r_z33 r_p33 r_q33
  go_wp2_with fail
  refine (fixed_any w34 T34).mono ?_
  rintro e w35 ⟨rfl, cc⟩
  have T35 := T34.new cc
  have C35 := chg_then C34 cc
  have r_x35 := row8_chg r_x34 cc
  have r_y35 := row8_chg r_y34 cc
  have r_z35 := row8_chg r_z34 cc
  have r_p35 := row8_chg r_p34 cc
  have r_q35 := row8_chg r_q34 cc
  clear cc T34 C34 r_x34 r_y34 r_z34 r_p34 r_q34
  go_wp2
  go_ret
  exact ⟨rfl, C35⟩

theorem contract (H : Type) (enc : TypeId × Value → H) (W : World) (base : Nat) (args : Array Value) (ds gs : List (DataW H)) (before : List MemPlace)
    (hval : ∀ (j : Nat) t v, Tryd.f8.params[j]? = some t → args[j]? = some v → Value.okWide Tryd.prog W .any base t v)
    (hW : DataW.Whole enc Tryd.prog Tryd.f8.params.toList Rows.crcPiecesSpec.vars false W args.toList ds gs before) (hk : Rows.uptoSmall H (ds ++ gs) = true) (hL : laidMetH Tryd.prog [("pith/crc.half32", Rows.laid_pith_crc_half32), ("pith/crc.half64", Rows.laid_pith_crc_half64)] W) :
    Calls Tryd.prog 8 args W fun e W' => ∃ v, e = .returned v ∧ Rows.crcPiecesSpec.post enc Tryd.prog Tryd.f8 false true false false W args v W' := by
  have hT := tab_of_laid hL
  have hW' := hW
  obtain ⟨p, q, hA0, hV, rfl, hfz, hnd⟩ := hW
  have hA : DataW.TrodAll enc Tryd.prog W 0 (fun _ => true) true Tryd.f8.params.toList args.toList ds p := hA0
  rw [Tryd.params8] at hA hval
  obtain ⟨v0, vs0, d0, ds0, p0, q0, hargs, rfl, rfl, h0, r0⟩ := trodAll_cons hA
  obtain ⟨v1, vs1, d1, ds1, p1, q1, rfl, rfl, rfl, h1, r1⟩ := trodAll_cons r0
  obtain ⟨v2, vs2, d2, ds2, p2, q2, rfl, rfl, rfl, h2, r2⟩ := trodAll_cons r1
  obtain ⟨rfl, rfl, rfl⟩ := trodAll_nil r2
  obtain rfl : args = #[v0, v1, v2] := by cases args; simp_all
  obtain ⟨rfl, rfl⟩ := trodVars_none hV
  have hbulk : Rows.uptoBulkAll [d0, d1, d2] ≤ 1048576 := by
    have := of_decide_eq_true hk
    simpa using this
  simp only [Rows.uptoBulkAll] at hbulk
  clear hA0
  obtain ⟨a0, len0, cap0, rfl⟩ := okWide_slice Tryd.underlying22 (hval 0 22 v0 rfl rfl)
  have k0 := h0
  have lt0 : ∀ x ∈ p0, x.block < W.heap.size := by obtain ⟨m, hm⟩ := k0; exact DataW.trod_lt m _ _ _ hm
  obtain ⟨xs0, hx0, hy0, hl0, hs0⟩ := open8u h0
  obtain ⟨a1, len1, cap1, rfl⟩ := okWide_slice Tryd.underlying22 (hval 1 22 v1 rfl rfl)
  have k1 := h1
  have lt1 : ∀ x ∈ p1, x.block < W.heap.size := by obtain ⟨m, hm⟩ := k1; exact DataW.trod_lt m _ _ _ hm
  obtain ⟨xs1, hx1, hy1, hl1, hs1⟩ := open8u h1
  obtain ⟨a2, len2, cap2, rfl⟩ := okWide_slice Tryd.underlying22 (hval 2 22 v2 rfl rfl)
  have k2 := h2
  have lt2 : ∀ x ∈ p2, x.block < W.heap.size := by obtain ⟨m, hm⟩ := k2; exact DataW.trod_lt m _ _ _ hm
  obtain ⟨xs2, hx2, hy2, hl2, hs2⟩ := open8u h2
  refine (walk a0 a1 a2 len0 len1 len2 cap0 cap1 cap2 xs0 xs1 xs2 W hT hx0 hx1 hx2 hy0 hy1 hy2 (by omega) (by omega) (by omega)).mono fun e W' ⟨he, hCC⟩ => ?_
  subst he
  have bel := below_of hCC
  exact ⟨_, rfl, _, _, _, [], _, [], hW', trodAll_mk1 (shut_bool Tryd.underlying4 _), (trodAll_cons_mk (Below.trod laidOut (by kernel_rfl) (of_decide_eq_true (by kernel_rfl)) k0 bel lt0) (trodAll_cons_mk (Below.trod laidOut (by kernel_rfl) (of_decide_eq_true (by kernel_rfl)) k1 bel lt1) (trodAll_cons_mk (Below.trod laidOut (by kernel_rfl) (of_decide_eq_true (by kernel_rfl)) k2 bel lt2) trodAll_mk0))), rfl, bel.frame _, fun h => by cases h⟩

theorem laid_met (os : Os) : laidMet Tryd.prog [("pith/crc.half32", Rows.laid_pith_crc_half32), ("pith/crc.half64", Rows.laid_pith_crc_half64)] ((World.doorLaid Tryd.prog 400 os).forCall (fun _ _ => 0) ⟨#[], #[.slice none 0 0, .slice none 0 0, .slice none 0 0], []⟩).memory :=
  laidMet_of_run' 8 (by kernel_rfl) (by kernel_rfl)
theorem reads (os : Os) {H : Type} (enc : TypeId × Value → H) : ∃ places, DataW.whole enc Tryd.prog ((World.doorLaid Tryd.prog 400 os).forCall (fun _ _ => 0) ⟨#[], #[.slice none 0 0, .slice none 0 0, .slice none 0 0], []⟩).memory Tryd.f8.params.toList Rows.crcPiecesSpec.vars false #[.slice none 0 0, .slice none 0 0, .slice none 0 0].toList 8 = some ([.nil, .nil, .nil], [], places) :=
  ⟨[], by kernel_rfl⟩

set_option maxRecDepth 100000 in
theorem lifted (os : Os) (started : os.Started) (H : Type) (enc : TypeId × Value → H) (F : Stop.Interp) :
    ReturnsInHanded {} Tryd.checked os 8 .any ((Rows.OpenSpec.upto Rows.crcPiecesSpec).preRow enc Tryd.prog Tryd.f8 Rows.crcPiecesUptoRow.domain false Rows.crcPiecesUptoRow.laid) (((Rows.OpenSpec.upto Rows.crcPiecesSpec).at F).post enc Tryd.prog Tryd.f8 false true false false) := by
  obtain ⟨places, hx⟩ := reads os enc
  refine returnsInHanded_of_row (C := Tryd.checked) (s := Rows.OpenSpec.upto Rows.crcPiecesSpec) own started (by kernel_rfl) Tryd.func8
    (witness_row_at (enc := enc) (C := Tryd.checked) false (World.doorLaid Tryd.prog 400 os) #[.slice none 0 0, .slice none 0 0, .slice none 0 0] rfl (by kernel_rfl) (by kernel_rfl) (by kernel_rfl)
      (OpenSpec.preRow_of_cond 8 hx (by kernel_rfl) (fun k hk => by cases hk; kernel_rfl) (by kernel_rfl) (laid_met os))) ?_
  intro W base args ds gs before hval hW _ hcond _ hL _ _
  exact contract H enc W base args ds gs before hval hW (hcond _ rfl) hL

theorem over : Rows.CrcPiecesUptoSaid :=
  OpenClaim.holds_of_cond 8 Tryd.f8 rfl rfl rfl rfl rfl rfl rfl ⟨rfl, rfl, rfl, rfl, rfl⟩ rfl rfl rfl rfl rfl (by kernel_rfl) Tryd.func8 (by kernel_rfl)
    (of_decide_eq_true (by kernel_rfl)) (by unfold Func.isWrapper; first | (rw [if_pos (by decide +kernel)]; kernel_rfl) | (rw [if_neg (by decide +kernel)]; exact ⟨rfl, rfl⟩))
    (fun os started H enc _ F => by rw [OpenClaim.pre_eq_preRow]; exact lifted os started H enc F)

theorem card : Rows.CrcPiecesUptoCardSaid :=
  Claim7.holds_tied_plain_at .later [] [.data, .data] true (true, "ca69a7d00fe7128775994628562602c8ac7e0bcdb440e5576c22203d2800d4d2") false
    over (fun _ h => by cases h) (by kernel_rfl) (fun _ h => by cases h) crcPiecesUpto_row_tie rfl ⟨rfl, rfl⟩ (by kernel_rfl) rfl
    (fun f fn hf hfn => by
      obtain rfl : f = 8 := Option.some.inj ((show Tryd.prog.funcNamed "pith/pithlaw03.CrcPieces" = some 8 by kernel_rfl).symm.trans hf) |>.symm
      obtain rfl : fn = Tryd.f8 := (Option.some.inj (Tryd.func8.symm.trans hfn)).symm
      exact ⟨by kernel_rfl, fun j t ht => by
        rw [Tryd.params8] at ht
        have hm : t ∈ [22, 22, 22] := by simpa using Array.mem_of_getElem? ht
        have hall : ([22, 22, 22].all fun u => !Tryd.prog.wantsStandIn u) = true := by kernel_rfl
        exact (show Tryd.prog.wantsStandIn t = false by simpa using List.all_eq_true.1 hall t hm)⟩)
    (by kernel_rfl)
end Go.Proofs.YtmgjbkgooekihaaDoor.crcPieces
namespace Go.Proofs.YtmgjbkgooekihaaDoor
theorem crcPiecesUpto_holds : Rows.CrcPiecesUptoCardSaid := crcPieces.card
#print axioms crcPiecesUpto_holds
end Go.Proofs.YtmgjbkgooekihaaDoor
