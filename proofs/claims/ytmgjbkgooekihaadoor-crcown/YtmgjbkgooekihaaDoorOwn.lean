/- CrcOwn holds: for every list of bytes handed to the statement's function the call returns true and the argument reads afterwards as it did; the two tables are as the program's text lays them. -/
import Derived.Test.YtmgjbkgooekihaaDoorStr
import Derived.Test.YtmgjbkgooekihaaDoorFacts
import Derived.Test.YtmgjbkgooekihaaDoorCards
import Derived.Test.YtmgjbkgooekihaaDoorTie
import Derived.SevenTiedAt
namespace Go.Proofs.YtmgjbkgooekihaaDoor.crcOwn
open Go.ChangeShapes Go.WideShapes Go.ChangeAt Go.RowKit
set_option linter.unusedVariables false

theorem one (xs : List Nat) : [xs].flatten = xs := by simp

set_option maxHeartbeats 4000000 in
set_option maxRecDepth 100000 in
theorem walk (a : Option Addr) (n c : Nat) (xs : List Nat) (w : World) (hT : Tab w) (hx : Row8 w a n c (up xs)) (hb : Byt xs) (hn : n ≤ 140737488351232) :
    Calls Tryd.prog 6 #[.slice a n c] w fun e w' => e = .returned (.bool true) ∧ Chg (fun _ => False) w w' := by
  have b0 : Crc.more Crc.P32 32 0 xs < 4294967296 := more32_lt hb (by decide)
  have b1 : Crc.more Crc.P64 64 0 xs < 18446744073709551616 := more64_lt hb (by decide)
  have e0 := Crc.more_own Crc.P32 4 xs b0
  have e1 := Crc.more_own Crc.P64 8 xs b1
  have z0 : Crc.more Crc.P32 32 0 (List.replicate 4 0) = 558161692 := by decide +kernel
  simp only [Nat.reduceMul] at e0 e1
  have y0 : Byt (xs ++ Crc.low (Crc.more Crc.P32 32 0 xs) 4) := hb.append (low_byt _ _)
  have y1 : Byt (xs ++ Crc.low (Crc.more Crc.P64 64 0 xs) 8) := hb.append (low_byt _ _)
  have p0 := pieces_one 22 ⟨a, n, c, rfl, hx, hb, by omega⟩
  have c0 := chg_one w (.cells #[.slice a n c] 22)
  have hT0 := hT.new c0
  have hx0 := row8_chg hx c0
  clear hT
  go_enter Tryd.func6, Tryd.ntmps6
  go_wp2_with fail
  refine (sum32_any _ 1 1 [xs] _ hT0 p0 rfl (by decide)).mono ?_
  rintro e w1 ⟨rfl, rfl⟩
  rw [one]
  generalize w.alloc (.cells #[.slice a n c] 22) = w1 at *
  generalize Crc.more Crc.P32 32 0 xs = s at *
  generalize ht : Crc.more Crc.P64 64 0 xs = t at *
  have H64 : Hid (Crc.more Crc.P64 64 0 xs = t) := ht
  clear ht
  clear p0
  go_wp2_with fail
  refine (low_any s 4 _ (by decide)).mono ?_
  rintro e w2 ⟨ad, k, rfl, hr2, c2⟩
  have hx2 := row8_chg hx0 c2
  have hT2 := hT0.new c2
  have c02 := chg_then c0 c2
  go_wp2_with fail
  refine (joined_any _ _ _ _ _ _ xs (Crc.low s 4) w2 hx2 hr2 (by omega)).mono ?_
  rintro e w3 ⟨xa, xk, rfl, rX3, c3⟩
  have hx3 := row8_chg hx2 c3
  have hT3 := hT2.new c3
  have c03 := chg_then c02 c3
  have p3 := pieces_one 22 ⟨a, n, c, rfl, hx3, hb, by omega⟩
  have c4 := chg_one w3 (.cells #[.slice a n c] 22)
  have hT4 := hT3.new c4
  have hx4 := row8_chg hx3 c4
  have rX4 := row8_chg rX3 c4
  have c04 := chg_then c03 c4
  clear hx hx0 hx2 hx3 hT0 hT2 hT3 c0 c2 c02 c03 c3 hr2 rX3 c4
  go_wp2_with fail
  refine (sum64_any _ 1 1 [xs] _ hT4 p3 rfl (by decide)).mono ?_
  rintro e w4 ⟨rfl, rfl⟩
  rw [one, H64.out]
  generalize w3.alloc (.cells #[.slice a n c] 22) = w4 at *
  clear p3
  go_wp2_with fail
  refine (low_any t 8 _ (by decide)).mono ?_
  rintro e w5 ⟨bd, bk, rfl, hr5, c5⟩
  have hx5 := row8_chg hx4 c5
  have hT5 := hT4.new c5
  have rX5 := row8_chg rX4 c5
  have c05 := chg_then c04 c5
  clear hx4 hT4 rX4 c04 c5
  go_wp2_with fail
  refine (joined_any _ _ _ _ _ _ xs (Crc.low t 8) w5 hx5 hr5 (by omega)).mono ?_
  rintro e w6 ⟨ya, yk, rfl, rY, c6⟩
  have hT := hT5.new c6
  have rX := row8_chg rX5 c6
  have c06 := chg_then c05 c6
  clear hx5 hT5 hr5 rX5 c05 c6
  go_wp2_with fail
  refine wp_region_free (mk := fun u => #[_, _, u 2, _, _, _, _, _, _, _, _, _, _, _, _, _, _, _, u 18, u 19, u 20, u 21, u 22, u 23, u 24, u 25, u 26, u 27, u 28, u 29, u 30, u 31, u 32, u 33, u 34, u 35, u 36, u 37, u 38, u 39, u 40, u 41, u 42]) (F := fun slot v w => (look [(18, .val (.slice xa (n + 4) xk)), (19, .pcs [xs ++ Crc.low s 4]), (20, .val (.int .u32 558161692)), (21, .row 4 (List.replicate 4 0)), (22, .pcs [List.replicate 4 0]), (23, .val (.int .u32 558161692)), (24, .val (.bool true)), (25, .val (.bool true)), (26, .val (.slice ya (n + 8) yk)), (27, .pcs [xs ++ Crc.low t 8]), (28, .val (.int .u64 (Crc.more Crc.P64 64 0 (List.replicate 8 0) : Nat))), (29, .row 8 (List.replicate 8 0)), (30, .pcs [List.replicate 8 0]), (31, .val (.int .u64 (Crc.more Crc.P64 64 0 (List.replicate 8 0) : Nat))), (32, .val (.bool true)), (33, .val (.bool true)), (34, .val (.bool true)), (35, .val (.slice xa (n + 4) xk)), (36, .pcs [xs ++ Crc.low s 4]), (37, .val (.int .u32 558161692)), (38, .val (.bool true)), (39, .val (.bool true)), (40, .val (.bool true)), (41, .val (.bool true)), (42, .val (.bool true)), (2, .val (.bool true))] slot).holds v w) (fun t => if t = 2 then .bool false else undef) rfl (by kernel_rfl) (by kernel_rfl) ?_ (fun _ v w w' hc h => Fact.stays _ v w w' hc h) ?_ ?_
  · repeat (refine ⟨⟨_, rfl, fun _ _ => rfl⟩, ?_⟩)
    exact trivial
  · refine ⟨?_, ?_, ?_, ?_, ?_, ?_, ?_, ?_, ?_, ?_, ?_, ?_, ?_, ?_, ?_, ?_, ?_, ?_, ?_, ?_, ?_, ?_, ?_, ?_, ?_, ?_, trivial⟩
    · intro u w hc hd K hK -- 18
      clear hd
      go_simp
      exact hK.out (.slice xa (n + 4) xk) w (Chg.refl _ _) rfl
    · intro u w hc hd K hK -- 19
      have h18 : (Fact.val (.slice xa (n + 4) xk)).holds (u 18) w := hd.get 0 (by kernel_rfl)
      simp only [Fact.holds] at h18
      clear hd
      simp only [h18] at hK
      go_simp
      exact hK.out _ _ (chg_one w _) ⟨_, rfl, pieces_one 22 ⟨_, _, _, rfl, row8_chg rX hc, y0, by omega⟩⟩
    · intro u w hc hd K hK -- 20
      have h19 : (Fact.pcs [xs ++ Crc.low s 4]).holds (u 19) w := hd.get 1 (by kernel_rfl)
      obtain ⟨q19, h19, p19⟩ := h19
      simp only [List.length_cons, List.length_nil, Nat.reduceAdd] at h19
      clear hd
      simp only [h19] at hK
      go_simp
      go_at_call 9
      refine (sum32_any q19 1 1 [xs ++ Crc.low s 4] w (hT.new hc) p19 rfl (by decide)).mono ?_
      rintro e w1 ⟨rfl, rfl⟩
      refine hK.out _ _ (Chg.refl _ _) ?_
      show _ = _
      rw [one, e0, z0]
      rfl
    · intro u w hc hd K hK -- 21
      clear hd
      go_simp
      rw [show (Instr.makeSlice 22 (.int .i64 4) (.int .i64 4)).run Tryd.prog w = _ from make8 4 (by decide) w]
      simp only [Result.andThen, Oper.upon]
      exact hK.out _ _ (chg_one w _) ⟨_, _, rfl, row8_new w (up (List.replicate 4 0)) 5 (0, 0) 4 4 (by simp [up])⟩
    · intro u w hc hd K hK -- 22
      have h21 : (Fact.row 4 (List.replicate 4 0)).holds (u 21) w := hd.get 3 (by kernel_rfl)
      obtain ⟨q21, k21, h21, r21⟩ := h21
      clear hd
      simp only [h21] at hK
      go_simp
      exact hK.out _ _ (chg_one w _) ⟨_, rfl, pieces_one 22 ⟨_, _, _, rfl, r21, Byt.zeros 4, by decide⟩⟩
    · intro u w hc hd K hK -- 23
      have h22 : (Fact.pcs [List.replicate 4 0]).holds (u 22) w := hd.get 4 (by kernel_rfl)
      obtain ⟨q22, h22, p22⟩ := h22
      simp only [List.length_cons, List.length_nil, Nat.reduceAdd] at h22
      clear hd
      simp only [h22] at hK
      go_simp
      go_at_call 9
      refine (sum32_any q22 1 1 [List.replicate 4 0] w (hT.new hc) p22 rfl (by decide)).mono ?_
      rintro e w1 ⟨rfl, rfl⟩
      refine hK.out _ _ (Chg.refl _ _) ?_
      show _ = _
      rw [one, z0]
      rfl
    · intro u w hc hd K hK -- 24
      have h20 : (Fact.val (.int .u32 558161692)).holds (u 20) w := hd.get 2 (by kernel_rfl)
      simp only [Fact.holds] at h20
      have h23 : (Fact.val (.int .u32 558161692)).holds (u 23) w := hd.get 5 (by kernel_rfl)
      simp only [Fact.holds] at h23
      clear hd
      simp only [h20, h23] at hK
      go_simp
      exact hK.out (.bool true) w (Chg.refl _ _) rfl
    · intro u w hc hd K hK -- 25
      have h24 : (Fact.val (.bool true)).holds (u 24) w := hd.get 6 (by kernel_rfl)
      simp only [Fact.holds] at h24
      clear hd
      simp only [h24] at hK
      go_simp
      exact hK.out (.bool true) w (Chg.refl _ _) rfl
    · intro u w hc hd K hK -- 26
      have h25 : (Fact.val (.bool true)).holds (u 25) w := hd.get 7 (by kernel_rfl)
      simp only [Fact.holds] at h25
      clear hd
      simp only [h25] at hK
      go_simp
      exact hK.out (.slice ya (n + 8) yk) w (Chg.refl _ _) rfl
    · intro u w hc hd K hK -- 27
      have h26 : (Fact.val (.slice ya (n + 8) yk)).holds (u 26) w := hd.get 8 (by kernel_rfl)
      simp only [Fact.holds] at h26
      have h25 : (Fact.val (.bool true)).holds (u 25) w := hd.get 7 (by kernel_rfl)
      simp only [Fact.holds] at h25
      clear hd
      simp only [h25, h26] at hK
      go_simp
      exact hK.out _ _ (chg_one w _) ⟨_, rfl, pieces_one 22 ⟨_, _, _, rfl, row8_chg rY hc, y1, by omega⟩⟩
    · intro u w hc hd K hK -- 28
      have h27 : (Fact.pcs [xs ++ Crc.low t 8]).holds (u 27) w := hd.get 9 (by kernel_rfl)
      obtain ⟨q27, h27, p27⟩ := h27
      simp only [List.length_cons, List.length_nil, Nat.reduceAdd] at h27
      have h25 : (Fact.val (.bool true)).holds (u 25) w := hd.get 7 (by kernel_rfl)
      simp only [Fact.holds] at h25
      clear hd
      simp only [h25, h27] at hK
      go_simp
      go_at_call 10
      refine (sum64_any q27 1 1 [xs ++ Crc.low t 8] w (hT.new hc) p27 rfl (by decide)).mono ?_
      rintro e w1 ⟨rfl, rfl⟩
      refine hK.out _ _ (Chg.refl _ _) ?_
      show _ = _
      rw [one, e1]
    · intro u w hc hd K hK -- 29
      have h25 : (Fact.val (.bool true)).holds (u 25) w := hd.get 7 (by kernel_rfl)
      simp only [Fact.holds] at h25
      clear hd
      simp only [h25] at hK
      go_simp
      rw [show (Instr.makeSlice 22 (.int .i64 8) (.int .i64 8)).run Tryd.prog w = _ from make8 8 (by decide) w]
      simp only [Result.andThen, Oper.upon]
      exact hK.out _ _ (chg_one w _) ⟨_, _, rfl, row8_new w (up (List.replicate 8 0)) 5 (0, 0) 8 8 (by simp [up])⟩
    · intro u w hc hd K hK -- 30
      have h29 : (Fact.row 8 (List.replicate 8 0)).holds (u 29) w := hd.get 11 (by kernel_rfl)
      obtain ⟨q29, k29, h29, r29⟩ := h29
      have h25 : (Fact.val (.bool true)).holds (u 25) w := hd.get 7 (by kernel_rfl)
      simp only [Fact.holds] at h25
      clear hd
      simp only [h25, h29] at hK
      go_simp
      exact hK.out _ _ (chg_one w _) ⟨_, rfl, pieces_one 22 ⟨_, _, _, rfl, r29, Byt.zeros 8, by decide⟩⟩
    · intro u w hc hd K hK -- 31
      have h30 : (Fact.pcs [List.replicate 8 0]).holds (u 30) w := hd.get 12 (by kernel_rfl)
      obtain ⟨q30, h30, p30⟩ := h30
      simp only [List.length_cons, List.length_nil, Nat.reduceAdd] at h30
      have h25 : (Fact.val (.bool true)).holds (u 25) w := hd.get 7 (by kernel_rfl)
      simp only [Fact.holds] at h25
      clear hd
      simp only [h25, h30] at hK
      go_simp
      go_at_call 10
      refine (sum64_any q30 1 1 [List.replicate 8 0] w (hT.new hc) p30 rfl (by decide)).mono ?_
      rintro e w1 ⟨rfl, rfl⟩
      refine hK.out _ _ (Chg.refl _ _) ?_
      show _ = _
      rw [one]
    · intro u w hc hd K hK -- 32
      have h28 : (Fact.val (.int .u64 (Crc.more Crc.P64 64 0 (List.replicate 8 0) : Nat))).holds (u 28) w := hd.get 10 (by kernel_rfl)
      simp only [Fact.holds] at h28
      have h31 : (Fact.val (.int .u64 (Crc.more Crc.P64 64 0 (List.replicate 8 0) : Nat))).holds (u 31) w := hd.get 13 (by kernel_rfl)
      simp only [Fact.holds] at h31
      have h25 : (Fact.val (.bool true)).holds (u 25) w := hd.get 7 (by kernel_rfl)
      simp only [Fact.holds] at h25
      clear hd
      simp only [h25, h28, h31] at hK
      go_simp
      exact hK.out (.bool true) w (Chg.refl _ _) rfl
    · intro u w hc hd K hK -- 33
      have h25 : (Fact.val (.bool true)).holds (u 25) w := hd.get 7 (by kernel_rfl)
      simp only [Fact.holds] at h25
      have h32 : (Fact.val (.bool true)).holds (u 32) w := hd.get 14 (by kernel_rfl)
      simp only [Fact.holds] at h32
      clear hd
      simp only [h25, h32] at hK
      go_simp
      exact hK.out (.bool true) w (Chg.refl _ _) rfl
    · intro u w hc hd K hK -- 34
      have h33 : (Fact.val (.bool true)).holds (u 33) w := hd.get 15 (by kernel_rfl)
      simp only [Fact.holds] at h33
      clear hd
      simp only [h33] at hK
      go_simp
      exact hK.out (.bool true) w (Chg.refl _ _) rfl
    · intro u w hc hd K hK -- 35
      have h34 : (Fact.val (.bool true)).holds (u 34) w := hd.get 16 (by kernel_rfl)
      simp only [Fact.holds] at h34
      clear hd
      simp only [h34] at hK
      go_simp
      exact hK.out (.slice xa (n + 4) xk) w (Chg.refl _ _) rfl
    · intro u w hc hd K hK -- 36
      have h35 : (Fact.val (.slice xa (n + 4) xk)).holds (u 35) w := hd.get 17 (by kernel_rfl)
      simp only [Fact.holds] at h35
      have h34 : (Fact.val (.bool true)).holds (u 34) w := hd.get 16 (by kernel_rfl)
      simp only [Fact.holds] at h34
      clear hd
      simp only [h34, h35] at hK
      go_simp
      exact hK.out _ _ (chg_one w _) ⟨_, rfl, pieces_one 22 ⟨_, _, _, rfl, row8_chg rX hc, y0, by omega⟩⟩
    · intro u w hc hd K hK -- 37
      have h36 : (Fact.pcs [xs ++ Crc.low s 4]).holds (u 36) w := hd.get 18 (by kernel_rfl)
      obtain ⟨q36, h36, p36⟩ := h36
      simp only [List.length_cons, List.length_nil, Nat.reduceAdd] at h36
      have h34 : (Fact.val (.bool true)).holds (u 34) w := hd.get 16 (by kernel_rfl)
      simp only [Fact.holds] at h34
      clear hd
      simp only [h34, h36] at hK
      go_simp
      go_at_call 9
      refine (sum32_any q36 1 1 [xs ++ Crc.low s 4] w (hT.new hc) p36 rfl (by decide)).mono ?_
      rintro e w1 ⟨rfl, rfl⟩
      refine hK.out _ _ (Chg.refl _ _) ?_
      show _ = _
      rw [one, e0, z0]
      rfl
    · intro u w hc hd K hK -- 38
      have h37 : (Fact.val (.int .u32 558161692)).holds (u 37) w := hd.get 19 (by kernel_rfl)
      simp only [Fact.holds] at h37
      have h34 : (Fact.val (.bool true)).holds (u 34) w := hd.get 16 (by kernel_rfl)
      simp only [Fact.holds] at h34
      clear hd
      simp only [h34, h37] at hK
      go_simp
      exact hK.out (.bool true) w (Chg.refl _ _) rfl
    · intro u w hc hd K hK -- 39
      have h34 : (Fact.val (.bool true)).holds (u 34) w := hd.get 16 (by kernel_rfl)
      simp only [Fact.holds] at h34
      have h38 : (Fact.val (.bool true)).holds (u 38) w := hd.get 20 (by kernel_rfl)
      simp only [Fact.holds] at h38
      clear hd
      simp only [h34, h38] at hK
      go_simp
      exact hK.out (.bool true) w (Chg.refl _ _) rfl
    · intro u w hc hd K hK -- 40
      have h39 : (Fact.val (.bool true)).holds (u 39) w := hd.get 21 (by kernel_rfl)
      simp only [Fact.holds] at h39
      clear hd
      simp only [h39] at hK
      go_simp
      exact hK.out (.bool true) w (Chg.refl _ _) rfl
    · intro u w hc hd K hK -- 41
      have h40 : (Fact.val (.bool true)).holds (u 40) w := hd.get 22 (by kernel_rfl)
      simp only [Fact.holds] at h40
      clear hd
      simp only [h40] at hK
      go_simp
      go_at_call 11
      refine (fixed_any w (hT.new hc)).mono ?_
      rintro e w1 ⟨rfl, c1⟩
      exact hK.out _ _ c1 rfl
    · intro u w hc hd K hK -- 42
      have h40 : (Fact.val (.bool true)).holds (u 40) w := hd.get 22 (by kernel_rfl)
      simp only [Fact.holds] at h40
      have h41 : (Fact.val (.bool true)).holds (u 41) w := hd.get 23 (by kernel_rfl)
      simp only [Fact.holds] at h41
      clear hd
      simp only [h40, h41] at hK
      go_simp
      exact hK.out (.bool true) w (Chg.refl _ _) rfl
    · intro u w hc hd K hK -- 2
      have h42 : (Fact.val (.bool true)).holds (u 42) w := hd.get 24 (by kernel_rfl)
      simp only [Fact.holds] at h42
      clear hd
      simp only [h42] at hK
      go_simp
      exact hK.out (.bool true) w (Chg.refl _ _) rfl
  · intro u w hc hA
    have h2 : (Fact.val (.bool true)).holds (u 2) w := hA.at 2 (by kernel_rfl)
    simp only [Fact.holds] at h2
    clear hA
    go_wp2
    go_ret
    exact ⟨h2 ▸ rfl, chg_then c06 hc⟩
set_option maxRecDepth 100000 in
theorem lifted (os : Os) (started : os.Started) (H : Type) (enc : TypeId × Value → H) :
    ReturnsInHanded {} Tryd.checked os 6 .any (fun w args => (Rows.crcOwnSpec.pre enc Tryd.prog Tryd.f6 [] false w args ∧ laidMetH Tryd.prog [("pith/crc.half32", Rows.laid_pith_crc_half32), ("pith/crc.half64", Rows.laid_pith_crc_half64)] w) ∧ sizedMet enc Tryd.prog Tryd.f6 (OpenSpec.ofChange Rows.crcOwnSpec) false w args)
      (Rows.crcOwnSpec.post enc Tryd.prog Tryd.f6 false true false false) := by
  refine returnsInHanded_of_change_and (C := Tryd.checked) (X := fun w _ => laidMetH Tryd.prog [("pith/crc.half32", Rows.laid_pith_crc_half32), ("pith/crc.half64", Rows.laid_pith_crc_half64)] w) (fun _ _ _ hh h => h.of_heap hh) own started (by kernel_rfl) Tryd.func6
    (ChangeSpec.witness_shaped (enc := enc) (C := Tryd.checked) (os := os) (X := fun w _ => laidMetH Tryd.prog [("pith/crc.half32", Rows.laid_pith_crc_half32), ("pith/crc.half64", Rows.laid_pith_crc_half64)] w) false (World.doorLaid Tryd.prog 400 os) #[.slice none 0 0] 8 rfl (World.shaped_of_RefB (by kernel_rfl) (by kernel_rfl)) (by kernel_rfl) (by kernel_rfl) (by kernel_rfl) (door_met os _)) ?_
  intro W base args ds gs before hval0 hW _ hsz0 hL _
  have hsz : (DataW.weightsEach Tryd.prog (Tryd.f6.params.toList ++ Rows.crcOwnSpec.plain.varTypes Tryd.prog) (ds ++ gs)).all (· ≤ reachBytes) = true := hsz0
  clear hsz0
  have hT := tab_of_laid hL
  have hval : ∀ (j : Nat) t v, Tryd.f6.params[j]? = some t → args[j]? = some v → Value.okWide Tryd.prog W .any base t v := hval0
  have hW' := hW
  obtain ⟨p, q, hA0, hV, rfl, hfz, hnd⟩ := hW
  have hA : DataW.TrodAll enc Tryd.prog W 0 (fun _ => true) true Tryd.f6.params.toList args.toList ds p := hA0
  rw [Tryd.params6] at hA hval hsz
  obtain ⟨v0, vs0, d0, ds0, p0, q0, hargs, rfl, rfl, h0, r0⟩ := trodAll_cons hA
  obtain ⟨rfl, rfl, rfl⟩ := trodAll_nil r0
  obtain rfl : args = #[v0] := by cases args; simp_all
  obtain ⟨rfl, rfl⟩ := trodVars_none hV
  obtain ⟨a0, len0, cap0, rfl⟩ := okWide_slice Tryd.underlying22 (hval 0 22 v0 rfl rfl)
  have k0 := h0
  have lt0 : ∀ x ∈ p0, x.block < W.heap.size := by obtain ⟨m, hm⟩ := k0; exact DataW.trod_lt m _ _ _ hm
  obtain ⟨xs0, hx0, hy0, hl0, hcap0⟩ := open8 h0 (fun elems spare e => by subst e; exact sized_slice hsz (j := 0) (t := 22) (e := 5) rfl rfl Tryd.underlying22)
  clear hA0 hval0
  refine (walk a0 len0 cap0 xs0 W hT hx0 hy0 (by omega)).mono fun e W' ⟨he, hCC⟩ => ?_
  subst he
  have bel := below_of hCC
  exact ⟨_, rfl, _, _, _, [], _, [], hW', trodAll_mk1 (shut_bool Tryd.underlying4 _), (trodAll_cons_mk (Below.trod laidOut (by kernel_rfl) (of_decide_eq_true (by kernel_rfl)) k0 bel lt0) trodAll_mk0), rfl, bel.frame _, fun h => by cases h⟩

theorem over : Rows.CrcOwnSaid :=
  OpenClaim.holds_of_wide 6 Tryd.f6 rfl rfl rfl rfl rfl rfl rfl ⟨rfl, rfl, rfl, rfl, rfl⟩ rfl rfl rfl rfl rfl (by kernel_rfl) Tryd.func6 (by kernel_rfl)
    (of_decide_eq_true (by kernel_rfl)) (by unfold Func.isWrapper; first | (rw [if_pos (by decide +kernel)]; kernel_rfl) | (rw [if_neg (by decide +kernel)]; exact ⟨rfl, rfl⟩))
    (fun os started H enc _ => lifted os started H enc)

theorem card : Rows.CrcOwnCardSaid :=
  Claim7.holds_tied_plain_at .later [] [.data, .data] true (true, "ca69a7d00fe7128775994628562602c8ac7e0bcdb440e5576c22203d2800d4d2") false
    over (fun _ h => by cases h) (by kernel_rfl) (fun _ h => by cases h) crcOwn_row_tie rfl ⟨rfl, rfl⟩ (by kernel_rfl) rfl
    (fun f fn hf hfn => by
      obtain rfl : f = 6 := Option.some.inj ((show Tryd.prog.funcNamed "pith/pithlaw03.CrcOwn" = some 6 by kernel_rfl).symm.trans hf) |>.symm
      obtain rfl : fn = Tryd.f6 := (Option.some.inj (Tryd.func6.symm.trans hfn)).symm
      exact ⟨by kernel_rfl, fun j t ht => by
        rw [Tryd.params6] at ht
        have hm : t ∈ [22] := by simpa using Array.mem_of_getElem? ht
        have hall : ([22].all fun u => !Tryd.prog.wantsStandIn u) = true := by kernel_rfl
        exact (show Tryd.prog.wantsStandIn t = false by simpa using List.all_eq_true.1 hall t hm)⟩)
    (by kernel_rfl)
end Go.Proofs.YtmgjbkgooekihaaDoor.crcOwn
namespace Go.Proofs.YtmgjbkgooekihaaDoor
theorem crcOwn_holds : Rows.CrcOwnCardSaid := crcOwn.card
#print axioms crcOwn_holds
end Go.Proofs.YtmgjbkgooekihaaDoor
