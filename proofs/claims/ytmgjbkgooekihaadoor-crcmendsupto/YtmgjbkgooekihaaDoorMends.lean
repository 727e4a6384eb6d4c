/- CrcMends holds where what is handed in is of bulk at most 1048576: for every four lists of bytes handed to the statement's function the call returns true and the argument reads afterwards as it did; the bound is the given statement's own, and the two tables are as the program's text lays them. -/
import Derived.Test.YtmgjbkgooekihaaDoorStr
import Derived.Test.YtmgjbkgooekihaaDoorUpto
import Derived.Test.YtmgjbkgooekihaaDoorCards
import Derived.Test.YtmgjbkgooekihaaDoorTie
import Derived.SevenTiedAt
namespace Go.Proofs.YtmgjbkgooekihaaDoor.crcMends
open Go.ChangeShapes Go.WideShapes Go.ChangeAt Go.RowKit
set_option linter.unusedVariables false

theorem one (xs : List Nat) : [xs].flatten = xs := by simp

set_option maxHeartbeats 40000000 in
set_option maxRecDepth 100000 in
theorem walk_no (a b c d : Option Addr) (la lb lc ld ca cb cc cd : Nat) (w0 : World) (hne : lb ≠ lc) (n1 : lb ≤ 1048576) (n2 : lc ≤ 1048576) :
    Calls Tryd.prog 5 #[.agg #[.slice a la ca, .slice b lb cb, .slice c lc cc, .slice d ld cd]] w0 fun e w' => e = .returned (.bool true) ∧ Chg (fun _ => False) w0 w' := by
  have hb : ((lb : Int) != (lc : Int)) = true := bne_iff_ne.2 (by omega)
  have hF : ¬ Fits 1048576 0 lb lc := fun h => hne h.2.2.2.1
  have c1 := chg_one w0 (.cells #[.slice a la ca, .slice b lb cb, .slice c lc cc, .slice d ld cd] 33)
  go_enter Tryd.func5, Tryd.ntmps5
  go_wp2_with fail
  refine (patch32_no 1 1048576 0 lb lc b c cb cc _ hF (by decide) (by omega) (by omega)).mono ?_
  rintro e w1 ⟨rfl, rfl⟩
  go_wp2_with fail
  refine (patch64_no 1 1048576 0 lb lc b c cb cc _ hF (by decide) (by omega) (by omega)).mono ?_
  rintro e w1 ⟨rfl, rfl⟩
  clear hF
  go_wp2
  go_ret
  exact ⟨rfl, c1⟩

theorem cellsM : Tryd.prog.cellsOf 33 = 4 := by kernel_rfl

/-- The argument, opened: four lists of bytes, each no longer than the bulk. -/
theorem open_mend {H : Type} {enc : TypeId × Value → H} {W : World} {base : Nat} {v : Value} {d : DataW H} {p : List MemPlace} (hv : Value.okWide Tryd.prog W .any base 33 v)
    (h : DataW.Trod enc Tryd.prog W 0 (fun _ => true) true 33 v d p) :
    ∃ a b c d' la lb lc ld ca cb cc cd xa xb xc xd, v = .agg #[.slice a la ca, .slice b lb cb, .slice c lc cc, .slice d' ld cd] ∧ Row8 W a la ca (up xa) ∧ Row8 W b lb cb (up xb) ∧ Row8 W c lc cc (up xc) ∧ Row8 W d' ld cd (up xd) ∧
      Byt xa ∧ Byt xb ∧ Byt xc ∧ Byt xd ∧ la ≤ Rows.uptoBulk d ∧ lb ≤ Rows.uptoBulk d ∧ lc ≤ Rows.uptoBulk d ∧ ld ≤ Rows.uptoBulk d := by
  obtain ⟨cs, rfl, hsz⟩ := okWide_struct Tryd.underlying33 hv
  obtain ⟨fuel, hf⟩ := h
  have hf' : DataW.trod enc Tryd.prog W 0 (fun _ => true) true fuel 33 cs.toList = some (d, p) := hf
  obtain ⟨xs, n, _, hd, hl, hlen, hx⟩ := DataW.trod_struct Tryd.underlying33 hf'
  rw [cellsM] at hl
  obtain ⟨l⟩ := cs
  match l, hl with
  | [c0, c1, c2, c3], _ =>
    have hs : xs.length = 4 := by simpa using hlen
    match xs, hs with
    | [y0, y1, y2, y3], _ =>
      have h0 : DataW.trod enc Tryd.prog W 0 (fun _ => true) true n 22 [c0] = some y0 := by have := hx 0 _ rfl; simpa [cellsB] using this
      have h1 : DataW.trod enc Tryd.prog W 0 (fun _ => true) true n 22 [c1] = some y1 := by have := hx 1 _ rfl; simpa [cellsB] using this
      have h2 : DataW.trod enc Tryd.prog W 0 (fun _ => true) true n 22 [c2] = some y2 := by have := hx 2 _ rfl; simpa [cellsB] using this
      have h3 : DataW.trod enc Tryd.prog W 0 (fun _ => true) true n 22 [c3] = some y3 := by have := hx 3 _ rfl; simpa [cellsB] using this
      obtain ⟨a0, l0, k0, n0, rfl, r0, b0, -, s0, -⟩ := open8c h0
      obtain ⟨a1, l1, k1, n1, rfl, r1, b1, -, s1, -⟩ := open8c h1
      obtain ⟨a2, l2, k2, n2, rfl, r2, b2, -, s2, -⟩ := open8c h2
      obtain ⟨a3, l3, k3, n3, rfl, r3, b3, -, s3, -⟩ := open8c h3
      simp only [Prod.mk.injEq, List.map_cons, List.map_nil] at hd
      have hb : Rows.uptoBulk d = Rows.uptoBulk y0.1 + (Rows.uptoBulk y1.1 + (Rows.uptoBulk y2.1 + (Rows.uptoBulk y3.1 + 0))) + 1 := by rw [hd.1]; simp [Rows.uptoBulk, Rows.uptoBulkAll]
      exact ⟨a0, a1, a2, a3, l0, l1, l2, l3, k0, k1, k2, k3, n0, n1, n2, n3, rfl, r0, r1, r2, r3, b0, b1, b2, b3, by omega, by omega, by omega, by omega⟩

theorem mend (P w : Nat) (xa xb xc xd : List Nat) (m ld la n : Nat) (hb : xb.length = m) (hc : xc.length = m) (hd : xd.length = ld) (hn : la + m + ld = n) :
    Crc.more P w 0 (xa ++ xb ++ xd) ^^^ Crc.itr P (8 * (n - la - m)) (Crc.raw P 0 (diff xb xc)) = Crc.more P w 0 (xa ++ xc ++ xd) := by
  rw [Crc.more_patch P w xa xb xc xd (by rw [hb, hc]), hd, show n - la - m = ld by omega]
  rfl

set_option maxHeartbeats 40000000 in
set_option maxRecDepth 100000 in
theorem walk_yes (a b c d : Option Addr) (la m ld ca cb cc cd : Nat) (xa xb xc xd : List Nat) (w0 : World) (T0 : Tab w0) (r_a0 : Row8 w0 a la ca (up xa)) (r_b0 : Row8 w0 b m cb (up xb)) (r_c0 : Row8 w0 c m cc (up xc)) (r_d0 : Row8 w0 d ld cd (up xd)) (ba : Byt xa) (bb : Byt xb) (bc : Byt xc) (bd : Byt xd)
    (n0 : la ≤ 1048576) (n1 : m ≤ 1048576) (n2 : ld ≤ 1048576) :
    Calls Tryd.prog 5 #[.agg #[.slice a la ca, .slice b m cb, .slice c m cc, .slice d ld cd]] w0 fun e w' => e = .returned (.bool true) ∧ Chg (fun _ => False) w0 w' := by
  have C0 : Chg (fun _ => False) w0 w0 := Chg.refl _ _
  have l1 : xb.length = m := by rw [← up_length]; exact r_b0.1
  have l2 : xc.length = m := by rw [← up_length]; exact r_c0.1
  have l3 : xd.length = ld := by rw [← up_length]; exact r_d0.1
  obtain ⟨n, hN⟩ : ∃ n, la + m + ld = n := ⟨_, rfl⟩
  have hn : n ≤ 3145728 := by omega
  have ho : la + m ≤ n := by omega
  have HN : Hid (la + m + ld = n) := hN
  have bw : Byt (xa ++ xb ++ xd) := (ba.append bb).append bd
  have bi : Byt (xa ++ xc ++ xd) := (ba.append bc).append bd
  have ja32 := mend Crc.P32 32 xa xb xc xd m ld la n l1 l2 l3 hN
  have jb32 := mend Crc.P32 32 xa xc xb xd m ld la n l2 l1 l3 hN
  have bV32 := more32_lt (s := 0) bw (by decide)
  have bI32 := more32_lt (s := 0) bi (by decide)
  generalize gV : Crc.more Crc.P32 32 0 (xa ++ xb ++ xd) = V32 at *
  generalize gI : Crc.more Crc.P32 32 0 (xa ++ xc ++ xd) = I32 at *
  have HV32 : Hid (Crc.more Crc.P32 32 0 (xa ++ xb ++ xd) = V32) := gV
  have HI32 : Hid (Crc.more Crc.P32 32 0 (xa ++ xc ++ xd) = I32) := gI
  have JA32 : Hid (V32 ^^^ Crc.itr Crc.P32 (8 * (n - la - m)) (Crc.raw Crc.P32 0 (diff xb xc)) = I32) := ja32
  have JB32 : Hid (I32 ^^^ Crc.itr Crc.P32 (8 * (n - la - m)) (Crc.raw Crc.P32 0 (diff xc xb)) = V32) := jb32
  clear gV gI ja32 jb32
  have ja64 := mend Crc.P64 64 xa xb xc xd m ld la n l1 l2 l3 hN
  have jb64 := mend Crc.P64 64 xa xc xb xd m ld la n l2 l1 l3 hN
  have bV64 := more64_lt (s := 0) bw (by decide)
  have bI64 := more64_lt (s := 0) bi (by decide)
  generalize gV : Crc.more Crc.P64 64 0 (xa ++ xb ++ xd) = V64 at *
  generalize gI : Crc.more Crc.P64 64 0 (xa ++ xc ++ xd) = I64 at *
  have HV64 : Hid (Crc.more Crc.P64 64 0 (xa ++ xb ++ xd) = V64) := gV
  have HI64 : Hid (Crc.more Crc.P64 64 0 (xa ++ xc ++ xd) = I64) := gI
  have JA64 : Hid (V64 ^^^ Crc.itr Crc.P64 (8 * (n - la - m)) (Crc.raw Crc.P64 0 (diff xb xc)) = I64) := ja64
  have JB64 : Hid (I64 ^^^ Crc.itr Crc.P64 (8 * (n - la - m)) (Crc.raw Crc.P64 0 (diff xc xb)) = V64) := jb64
  clear gV gI ja64 jb64
  clear hN l1 l2 l3
  have cc1 := chg_one w0 (.cells #[.slice a la ca, .slice b m cb, .slice c m cc, .slice d ld cd] 33)
  go_enter Tryd.func5, Tryd.ntmps5
  go_wp2_with fail
  have T1 := T0.new cc1
  have C1 := chg_then C0 cc1
  have r_a1 := row8_chg r_a0 cc1
  have r_b1 := row8_chg r_b0 cc1
  have r_c1 := row8_chg r_c0 cc1
  have r_d1 := row8_chg r_d0 cc1
  clear cc1 T0 C0 r_a0 r_b0 r_c0 r_d0
  generalize hwx : w0.alloc (.cells #[.slice a la ca, .slice b m cb, .slice c m cc, .slice d ld cd] 33) = w1 at *
  clear hwx
  go_wp2_with fail
  refine (joined_any a b la ca m cb xa xb w1 r_a1 r_b1 (by omega)).mono ?_
  rintro e w2 ⟨ad1, k1, rfl, hr1, cc⟩
  have T2 := T1.new cc
  have C2 := chg_then C1 cc
  have r_a2 := row8_chg r_a1 cc
  have r_b2 := row8_chg r_b1 cc
  have r_c2 := row8_chg r_c1 cc
  have r_d2 := row8_chg r_d1 cc
  clear cc T1 C1 r_a1 r_b1 r_c1 r_d1
  have r_e2 := hr1
  clear hr1
  go_wp2_with fail
  refine (joined_any ad1 d (la + m) k1 ld cd (xa ++ xb) xd w2 r_e2 r_d2 (by omega)).mono ?_
  rintro e w3 ⟨ad2, k2, rfl, hr2, cc⟩
  have T3 := T2.new cc
  have C3 := chg_then C2 cc
  have r_a3 := row8_chg r_a2 cc
  have r_b3 := row8_chg r_b2 cc
  have r_c3 := row8_chg r_c2 cc
  have r_d3 := row8_chg r_d2 cc
  have r_e3 := row8_chg r_e2 cc
  clear cc T2 C2 r_a2 r_b2 r_c2 r_d2 r_e2
  rw [HN.out] at hr2 ⊢
  have r_v3 := hr2
  clear hr2
  go_wp2_with fail
  refine (joined_any a c la ca m cc xa xc w3 r_a3 r_c3 (by omega)).mono ?_
  rintro e w4 ⟨ad3, k3, rfl, hr3, cc⟩
  have T4 := T3.new cc
  have C4 := chg_then C3 cc
  have r_a4 := row8_chg r_a3 cc
  have r_b4 := row8_chg r_b3 cc
  have r_c4 := row8_chg r_c3 cc
  have r_d4 := row8_chg r_d3 cc
  have r_e4 := row8_chg r_e3 cc
  have r_v4 := row8_chg r_v3 cc
  clear cc T3 C3 r_a3 r_b3 r_c3 r_d3 r_e3 r_v3
  have r_f4 := hr3
  clear hr3
  go_wp2_with fail
  refine (joined_any ad3 d (la + m) k3 ld cd (xa ++ xc) xd w4 r_f4 r_d4 (by omega)).mono ?_
  rintro e w5 ⟨ad4, k4, rfl, hr4, cc⟩
  have T5 := T4.new cc
  have C5 := chg_then C4 cc
  have r_a5 := row8_chg r_a4 cc
  have r_b5 := row8_chg r_b4 cc
  have r_c5 := row8_chg r_c4 cc
  have r_d5 := row8_chg r_d4 cc
  have r_e5 := row8_chg r_e4 cc
  have r_v5 := row8_chg r_v4 cc
  have r_f5 := row8_chg r_f4 cc
  clear cc T4 C4 r_a4 r_b4 r_c4 r_d4 r_e4 r_v4 r_f4
  rw [HN.out] at hr4 ⊢
  have r_i5 := hr4
  clear hr4
  go_wp2_with fail
  refine (sum32_any _ 1 1 [xa ++ xb ++ xd] _ (T5.new (chg_one w5 _)) (pieces_one 22 ⟨_, _, _, rfl, r_v5, bw, by omega⟩) rfl (by decide)).mono ?_
  rintro e wx ⟨rfl, rfl⟩
  rw [one, HV32.out]
  have cc := chg_one w5 (.cells #[.slice ad2 n k2] 22)
  have T6 := T5.new cc
  have C6 := chg_then C5 cc
  have r_a6 := row8_chg r_a5 cc
  have r_b6 := row8_chg r_b5 cc
  have r_c6 := row8_chg r_c5 cc
  have r_d6 := row8_chg r_d5 cc
  have r_e6 := row8_chg r_e5 cc
  have r_v6 := row8_chg r_v5 cc
  have r_f6 := row8_chg r_f5 cc
  have r_i6 := row8_chg r_i5 cc
  clear cc T5 C5 r_a5 r_b5 r_c5 r_d5 r_e5 r_v5 r_f5 r_i5
  generalize hwx : w5.alloc (.cells #[.slice ad2 n k2] 22) = w6 at *
  clear hwx
  go_wp2_with fail
  refine (patch32_any V32 n la m b c cb cc xb xc w6 T6 bV32 r_b6 r_c6 bb bc (by omega) ho).mono ?_
  rintro e w7 ⟨rfl, cc⟩
  rw [JA32.out]
  have T7 := T6.new cc
  have C7 := chg_then C6 cc
  have r_a7 := row8_chg r_a6 cc
  have r_b7 := row8_chg r_b6 cc
  have r_c7 := row8_chg r_c6 cc
  have r_d7 := row8_chg r_d6 cc
  have r_e7 := row8_chg r_e6 cc
  have r_v7 := row8_chg r_v6 cc
  have r_f7 := row8_chg r_f6 cc
  have r_i7 := row8_chg r_i6 cc
  clear cc T6 C6 r_a6 r_b6 r_c6 r_d6 r_e6 r_v6 r_f6 r_i6
  go_wp2_with fail
  refine (sum64_any _ 1 1 [xa ++ xb ++ xd] _ (T7.new (chg_one w7 _)) (pieces_one 22 ⟨_, _, _, rfl, r_v7, bw, by omega⟩) rfl (by decide)).mono ?_
  rintro e wx ⟨rfl, rfl⟩
  rw [one, HV64.out]
  have cc := chg_one w7 (.cells #[.slice ad2 n k2] 22)
  have T8 := T7.new cc
  have C8 := chg_then C7 cc
  have r_a8 := row8_chg r_a7 cc
  have r_b8 := row8_chg r_b7 cc
  have r_c8 := row8_chg r_c7 cc
  have r_d8 := row8_chg r_d7 cc
  have r_e8 := row8_chg r_e7 cc
  have r_v8 := row8_chg r_v7 cc
  have r_f8 := row8_chg r_f7 cc
  have r_i8 := row8_chg r_i7 cc
  clear cc T7 C7 r_a7 r_b7 r_c7 r_d7 r_e7 r_v7 r_f7 r_i7
  generalize hwx : w7.alloc (.cells #[.slice ad2 n k2] 22) = w8 at *
  clear hwx
  go_wp2_with fail
  refine (patch64_any V64 n la m b c cb cc xb xc w8 T8 bV64 r_b8 r_c8 bb bc (by omega) ho).mono ?_
  rintro e w9 ⟨rfl, cc⟩
  rw [JA64.out]
  have T9 := T8.new cc
  have C9 := chg_then C8 cc
  have r_a9 := row8_chg r_a8 cc
  have r_b9 := row8_chg r_b8 cc
  have r_c9 := row8_chg r_c8 cc
  have r_d9 := row8_chg r_d8 cc
  have r_e9 := row8_chg r_e8 cc
  have r_v9 := row8_chg r_v8 cc
  have r_f9 := row8_chg r_f8 cc
  have r_i9 := row8_chg r_i8 cc
  clear cc T8 C8 r_a8 r_b8 r_c8 r_d8 r_e8 r_v8 r_f8 r_i8
  go_wp2_with fail
  refine (patch32_any I32 n la m c b cc cb xc xb w9 T9 bI32 r_c9 r_b9 bc bb (by omega) ho).mono ?_
  rintro e w10 ⟨rfl, cc⟩
  rw [JB32.out]
  have T10 := T9.new cc
  have C10 := chg_then C9 cc
  have r_a10 := row8_chg r_a9 cc
  have r_b10 := row8_chg r_b9 cc
  have r_c10 := row8_chg r_c9 cc
  have r_d10 := row8_chg r_d9 cc
  have r_e10 := row8_chg r_e9 cc
  have r_v10 := row8_chg r_v9 cc
  have r_f10 := row8_chg r_f9 cc
  have r_i10 := row8_chg r_i9 cc
  clear cc T9 C9 r_a9 r_b9 r_c9 r_d9 r_e9 r_v9 r_f9 r_i9
  go_wp2_with fail
  refine (patch64_any I64 n la m c b cc cb xc xb w10 T10 bI64 r_c10 r_b10 bc bb (by omega) ho).mono ?_
  rintro e w11 ⟨rfl, cc⟩
  rw [JB64.out]
  have T11 := T10.new cc
  have C11 := chg_then C10 cc
  have r_a11 := row8_chg r_a10 cc
  have r_b11 := row8_chg r_b10 cc
  have r_c11 := row8_chg r_c10 cc
  have r_d11 := row8_chg r_d10 cc
  have r_e11 := row8_chg r_e10 cc
  have r_v11 := row8_chg r_v10 cc
  have r_f11 := row8_chg r_f10 cc
  have r_i11 := row8_chg r_i10 cc
  clear cc T10 C10 r_a10 r_b10 r_c10 r_d10 r_e10 r_v10 r_f10 r_i10
  go_wp2_with fail
  refine (fixed_any w11 T11).mono ?_
  rintro e w12 ⟨rfl, cc⟩
  have T12 := T11.new cc
  have C12 := chg_then C11 cc
  have r_a12 := row8_chg r_a11 cc
  have r_b12 := row8_chg r_b11 cc
  have r_c12 := row8_chg r_c11 cc
  have r_d12 := row8_chg r_d11 cc
  have r_e12 := row8_chg r_e11 cc
  have r_v12 := row8_chg r_v11 cc
  have r_f12 := row8_chg r_f11 cc
  have r_i12 := row8_chg r_i11 cc
  clear cc T11 C11 r_a11 r_b11 r_c11 r_d11 r_e11 r_v11 r_f11 r_i11
  go_wp2_with fail
  refine (sum32_any _ 1 1 [xa ++ xc ++ xd] _ (T12.new (chg_one w12 _)) (pieces_one 22 ⟨_, _, _, rfl, r_i12, bi, by omega⟩) rfl (by decide)).mono ?_
  rintro e wx ⟨rfl, rfl⟩
  rw [one, HI32.out]
  have cc := chg_one w12 (.cells #[.slice ad4 n k4] 22)
  have T13 := T12.new cc
  have C13 := chg_then C12 cc
  have r_a13 := row8_chg r_a12 cc
  have r_b13 := row8_chg r_b12 cc
  have r_c13 := row8_chg r_c12 cc
  have r_d13 := row8_chg r_d12 cc
  have r_e13 := row8_chg r_e12 cc
  have r_v13 := row8_chg r_v12 cc
  have r_f13 := row8_chg r_f12 cc
  have r_i13 := row8_chg r_i12 cc
  clear cc T12 C12 r_a12 r_b12 r_c12 r_d12 r_e12 r_v12 r_f12 r_i12
  generalize hwx : w12.alloc (.cells #[.slice ad4 n k4] 22) = w13 at *
  clear hwx
  go_wp2_with fail
  refine (sum64_any _ 1 1 [xa ++ xc ++ xd] _ (T13.new (chg_one w13 _)) (pieces_one 22 ⟨_, _, _, rfl, r_i13, bi, by omega⟩) rfl (by decide)).mono ?_
  rintro e wx ⟨rfl, rfl⟩
  rw [one, HI64.out]
  have cc := chg_one w13 (.cells #[.slice ad4 n k4] 22)
  have T14 := T13.new cc
  have C14 := chg_then C13 cc
  have r_a14 := row8_chg r_a13 cc
  have r_b14 := row8_chg r_b13 cc
  have r_c14 := row8_chg r_c13 cc
  have r_d14 := row8_chg r_d13 cc
  have r_e14 := row8_chg r_e13 cc
  have r_v14 := row8_chg r_v13 cc
  have r_f14 := row8_chg r_f13 cc
  have r_i14 := row8_chg r_i13 cc
  clear cc T13 C13 r_a13 r_b13 r_c13 r_d13 r_e13 r_v13 r_f13 r_i13
  generalize hwx : w13.alloc (.cells #[.slice ad4 n k4] 22) = w14 at *
  clear hwx
  go_wp2_with fail
  refine (sum32_any _ 1 1 [xa ++ xb ++ xd] _ (T14.new (chg_one w14 _)) (pieces_one 22 ⟨_, _, _, rfl, r_v14, bw, by omega⟩) rfl (by decide)).mono ?_
  rintro e wx ⟨rfl, rfl⟩
  rw [one, HV32.out]
  have cc := chg_one w14 (.cells #[.slice ad2 n k2] 22)
  have T15 := T14.new cc
  have C15 := chg_then C14 cc
  have r_a15 := row8_chg r_a14 cc
  have r_b15 := row8_chg r_b14 cc
  have r_c15 := row8_chg r_c14 cc
  have r_d15 := row8_chg r_d14 cc
  have r_e15 := row8_chg r_e14 cc
  have r_v15 := row8_chg r_v14 cc
  have r_f15 := row8_chg r_f14 cc
  have r_i15 := row8_chg r_i14 cc
  clear cc T14 C14 r_a14 r_b14 r_c14 r_d14 r_e14 r_v14 r_f14 r_i14
  generalize hwx : w14.alloc (.cells #[.slice ad2 n k2] 22) = w15 at *
  clear hwx
  go_wp2_with fail
  refine (sum64_any _ 1 1 [xa ++ xb ++ xd] _ (T15.new (chg_one w15 _)) (pieces_one 22 ⟨_, _, _, rfl, r_v15, bw, by omega⟩) rfl (by decide)).mono ?_
  rintro e wx ⟨rfl, rfl⟩
  rw [one, HV64.out]
  have cc := chg_one w15 (.cells #[.slice ad2 n k2] 22)
  have T16 := T15.new cc
  have C16 := chg_then C15 cc
  have r_a16 := row8_chg r_a15 cc
  have r_b16 := row8_chg r_b15 cc
  have r_c16 := row8_chg r_c15 cc
  have r_d16 := row8_chg r_d15 cc
  have r_e16 := row8_chg r_e15 cc
  have r_v16 := row8_chg r_v15 cc
  have r_f16 := row8_chg r_f15 cc
  have r_i16 := row8_chg r_i15 cc
  clear cc T15 C15 r_a15 r_b15 r_c15 r_d15 r_e15 r_v15 r_f15 r_i15
  generalize hwx : w15.alloc (.cells #[.slice ad2 n k2] 22) = w16 at *
  clear hwx
  go_wp2
  go_ret
  exact ⟨rfl, C16⟩

theorem walk (a b c d : Option Addr) (la lb lc ld ca cb cc cd : Nat) (xa xb xc xd : List Nat) (w0 : World) (T0 : Tab w0) (ra : Row8 w0 a la ca (up xa)) (rb : Row8 w0 b lb cb (up xb)) (rc : Row8 w0 c lc cc (up xc)) (rd : Row8 w0 d ld cd (up xd)) (ba : Byt xa) (bb : Byt xb) (bc : Byt xc) (bd : Byt xd)
    (n0 : la ≤ 1048576) (n1 : lb ≤ 1048576) (n2 : lc ≤ 1048576) (n3 : ld ≤ 1048576) :
    Calls Tryd.prog 5 #[.agg #[.slice a la ca, .slice b lb cb, .slice c lc cc, .slice d ld cd]] w0 fun e w' => e = .returned (.bool true) ∧ Chg (fun _ => False) w0 w' := by
  by_cases h : lb = lc
  · subst h
    exact walk_yes a b c d la lb ld ca cb cc cd xa xb xc xd w0 T0 ra rb rc rd ba bb bc bd n0 n1 n3
  · exact walk_no a b c d la lb lc ld ca cb cc cd w0 h n1 n2

theorem contract (H : Type) (enc : TypeId × Value → H) (W : World) (base : Nat) (args : Array Value) (ds gs : List (DataW H)) (before : List MemPlace)
    (hval : ∀ (j : Nat) t v, Tryd.f5.params[j]? = some t → args[j]? = some v → Value.okWide Tryd.prog W .any base t v)
    (hW : DataW.Whole enc Tryd.prog Tryd.f5.params.toList Rows.crcMendsSpec.vars false W args.toList ds gs before) (hk : Rows.uptoSmall H (ds ++ gs) = true) (hL : laidMetH Tryd.prog [("pith/crc.half32", Rows.laid_pith_crc_half32), ("pith/crc.half64", Rows.laid_pith_crc_half64)] W) :
    Calls Tryd.prog 5 args W fun e W' => ∃ v, e = .returned v ∧ Rows.crcMendsSpec.post enc Tryd.prog Tryd.f5 false true false false W args v W' := by
  have hT := tab_of_laid hL
  have hW' := hW
  obtain ⟨p, q, hA0, hV, rfl, hfz, hnd⟩ := hW
  have hA : DataW.TrodAll enc Tryd.prog W 0 (fun _ => true) true Tryd.f5.params.toList args.toList ds p := hA0
  rw [Tryd.params5] at hA hval
  obtain ⟨v0, vs0, d0, ds0, p0, q0, hargs, rfl, rfl, h0, r0⟩ := trodAll_cons hA
  obtain ⟨rfl, rfl, rfl⟩ := trodAll_nil r0
  obtain rfl : args = #[v0] := by cases args; simp_all
  obtain ⟨rfl, rfl⟩ := trodVars_none hV
  have hbulk : Rows.uptoBulkAll [d0] ≤ 1048576 := by
    have := of_decide_eq_true hk
    simpa using this
  simp only [Rows.uptoBulkAll] at hbulk
  clear hA0
  have k0 := h0
  have lt0 : ∀ x ∈ p0, x.block < W.heap.size := by obtain ⟨m, hm⟩ := k0; exact DataW.trod_lt m _ _ _ hm
  obtain ⟨a, b, c, d', la, lb, lc, ld, ca, cb, cc, cd, xa, xb, xc, xd, rfl, hx0, hx1, hx2, hx3, hy0, hy1, hy2, hy3, s0, s1, s2, s3⟩ := open_mend (hval 0 33 v0 rfl rfl) h0
  refine (walk _ _ _ _ _ _ _ _ _ _ _ _ _ _ _ _ W hT hx0 hx1 hx2 hx3 hy0 hy1 hy2 hy3 (by omega) (by omega) (by omega) (by omega)).mono fun e W' ⟨he, hCC⟩ => ?_
  subst he
  have bel := below_of hCC
  exact ⟨_, rfl, _, _, _, [], _, [], hW', trodAll_mk1 (shut_bool Tryd.underlying4 _), (trodAll_cons_mk (Below.trod laidOut (by kernel_rfl) (of_decide_eq_true (by kernel_rfl)) k0 bel lt0) trodAll_mk0), rfl, bel.frame _, fun h => by cases h⟩

theorem laid_met (os : Os) : laidMet Tryd.prog [("pith/crc.half32", Rows.laid_pith_crc_half32), ("pith/crc.half64", Rows.laid_pith_crc_half64)] ((World.doorLaid Tryd.prog 400 os).forCall (fun _ _ => 0) ⟨#[], #[.agg #[.slice none 0 0, .slice none 0 0, .slice none 0 0, .slice none 0 0]], []⟩).memory :=
  laidMet_of_run' 8 (by kernel_rfl) (by kernel_rfl)
theorem reads (os : Os) {H : Type} (enc : TypeId × Value → H) : ∃ places, DataW.whole enc Tryd.prog ((World.doorLaid Tryd.prog 400 os).forCall (fun _ _ => 0) ⟨#[], #[.agg #[.slice none 0 0, .slice none 0 0, .slice none 0 0, .slice none 0 0]], []⟩).memory Tryd.f5.params.toList Rows.crcMendsSpec.vars false #[.agg #[.slice none 0 0, .slice none 0 0, .slice none 0 0, .slice none 0 0]].toList 8 = some ([.agg [.nil, .nil, .nil, .nil]], [], places) :=
  ⟨[], by kernel_rfl⟩

set_option maxRecDepth 100000 in
theorem lifted (os : Os) (started : os.Started) (H : Type) (enc : TypeId × Value → H) (F : Stop.Interp) :
    ReturnsInHanded {} Tryd.checked os 5 .any ((Rows.OpenSpec.upto Rows.crcMendsSpec).preRow enc Tryd.prog Tryd.f5 Rows.crcMendsUptoRow.domain false Rows.crcMendsUptoRow.laid) (((Rows.OpenSpec.upto Rows.crcMendsSpec).at F).post enc Tryd.prog Tryd.f5 false true false false) := by
  obtain ⟨places, hx⟩ := reads os enc
  refine returnsInHanded_of_row (C := Tryd.checked) (s := Rows.OpenSpec.upto Rows.crcMendsSpec) own started (by kernel_rfl) Tryd.func5
    (witness_row_at (enc := enc) (C := Tryd.checked) false (World.doorLaid Tryd.prog 400 os) #[.agg #[.slice none 0 0, .slice none 0 0, .slice none 0 0, .slice none 0 0]] rfl (by kernel_rfl) (by kernel_rfl) (by kernel_rfl)
      (OpenSpec.preRow_of_cond 8 hx (by kernel_rfl) (fun k hk => by cases hk; kernel_rfl) (by kernel_rfl) (laid_met os))) ?_
  intro W base args ds gs before hval hW _ hcond _ hL _ _
  exact contract H enc W base args ds gs before hval hW (hcond _ rfl) hL

theorem over : Rows.CrcMendsUptoSaid :=
  OpenClaim.holds_of_cond 5 Tryd.f5 rfl rfl rfl rfl rfl rfl rfl ⟨rfl, rfl, rfl, rfl, rfl⟩ rfl rfl rfl rfl rfl (by kernel_rfl) Tryd.func5 (by kernel_rfl)
    (of_decide_eq_true (by kernel_rfl)) (by unfold Func.isWrapper; first | (rw [if_pos (by decide +kernel)]; kernel_rfl) | (rw [if_neg (by decide +kernel)]; exact ⟨rfl, rfl⟩))
    (fun os started H enc _ F => by rw [OpenClaim.pre_eq_preRow]; exact lifted os started H enc F)

theorem card : Rows.CrcMendsUptoCardSaid :=
  Claim7.holds_tied_plain_at .later [] [.data, .data] true (true, "ca69a7d00fe7128775994628562602c8ac7e0bcdb440e5576c22203d2800d4d2") false
    over (fun _ h => by cases h) (by kernel_rfl) (fun _ h => by cases h) crcMendsUpto_row_tie rfl ⟨rfl, rfl⟩ (by kernel_rfl) rfl
    (fun f fn hf hfn => by
      obtain rfl : f = 5 := Option.some.inj ((show Tryd.prog.funcNamed "pith/pithlaw03.CrcMends" = some 5 by kernel_rfl).symm.trans hf) |>.symm
      obtain rfl : fn = Tryd.f5 := (Option.some.inj (Tryd.func5.symm.trans hfn)).symm
      exact ⟨by kernel_rfl, fun j t ht => by
        rw [Tryd.params5] at ht
        have hm : t ∈ [33] := by simpa using Array.mem_of_getElem? ht
        have hall : ([33].all fun u => !Tryd.prog.wantsStandIn u) = true := by kernel_rfl
        exact (show Tryd.prog.wantsStandIn t = false by simpa using List.all_eq_true.1 hall t hm)⟩)
    (by kernel_rfl)
end Go.Proofs.YtmgjbkgooekihaaDoor.crcMends
namespace Go.Proofs.YtmgjbkgooekihaaDoor
theorem crcMendsUpto_holds : Rows.CrcMendsUptoCardSaid := crcMends.card
#print axioms crcMendsUpto_holds
end Go.Proofs.YtmgjbkgooekihaaDoor
