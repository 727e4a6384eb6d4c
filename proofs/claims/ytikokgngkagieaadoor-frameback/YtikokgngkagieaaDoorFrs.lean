/- The landed ReadHeader; arrays out of the middle of bytes; sizes read; of no statement by themselves. -/
import Derived.Test.YtikokgngkagieaaDoorFrp
import Derived.Test.YtikokgngkagieaaDoorCt
namespace Go.Proofs.YtikokgngkagieaaDoor
open Go.RowKit
set_option linter.unusedVariables false
set_option linter.unusedSimpArgs false
attribute [local go_sem] Oper.semAt_some
/-- Some bytes in the midst of a list, as cells. -/
theorem range_cut {w : World} {b off n c : Nat} {bs : List Nat} (h : Row8 w (some ⟨b, off, none⟩) n c (nums bs)) (k m : Nat) : w.rangeAt b (off + k) ((nums ((bs.drop k).take m)).map (Value.int .u8)) := by
  intro j v hv
  rcases h.2 with ⟨e0, e1⟩ | ⟨x, e, hx⟩
  · simp at e0
  · obtain rfl : x = ⟨b, off, none⟩ := by simpa using e.symm
    have h9 : ((nums bs).map (Value.int .u8))[k + j]? = some v := by
      simp only [nums, List.map_map, List.getElem?_map, List.getElem?_take, List.getElem?_drop] at hv ⊢
      split at hv
      · exact hv
      · simp at hv
    have := hx (k + j) v h9
    rw [Addr.add_mid] at this
    rw [Nat.add_assoc]
    exact this
theorem cut_mid {n c k : Nat} (b off : Nat) (hk : k ≤ n) (hkc : k < c) (ww : World) : (Instr.sliceAt 22 (.slice (some ⟨b, off, none⟩) n c) (some (.int .i64 (k : Int))) none none).run Tryd.prog ww = .ok (.slice (some ⟨b, off + k, none⟩) (n - k) (c - k)) ww := by
  rw [run_cutZ_lo undBy elemBy sizeBy _ n c k ww hk]
  unfold cutZ
  rw [if_neg (by omega), Nat.mul_one]
  simp only [Option.map_some, Addr.add_mid]
theorem lowN4 (a b c d : Nat) : Wire.lowNum (nums [a, b, c, d]) = ((Fr24.low4 [a, b, c, d] : Nat) : Int) := by
  have e : Wire.lowNum (nums [a, b, c, d]) = (a : Int) + 256 * ((b : Int) + 256 * ((c : Int) + 256 * ((d : Int) + 256 * 0))) := rfl
  rw [e]
  unfold Fr24.low4
  simp
set_option maxHeartbeats 8000000 in
set_option maxRecDepth 100000 in
theorem indexOf_any (a b c d : Nat) (ha : a < 256) (hb : b < 256) (hc : c < 256) (hd : d < 256) (w : World) : Calls Tryd.prog 29 #[ab [a, b, c, d]] w fun e w' => e = .returned (.int .i64 (4 * ((Fr24.low4 [a, b, c, d] : Int) + 1))) ∧ Chg (fun _ => False) w w' := by
  obtain ⟨N, hN⟩ : ∃ N, w.heap.size = N := ⟨_, rfl⟩
  obtain ⟨W0, hW0⟩ : ∃ W0, w.alloc (.cells (abA [a, b, c, d]) 57) = W0 := ⟨_, rfl⟩
  have HW0 : Hid (W0.heap[N]? = some (.cells (abA [a, b, c, d]) 57 (0, 0)) ∧ Chg (fun _ => False) w W0) := by
    rw [← hW0, ← hN]
    exact ⟨heap_alloc_last _ _, chg_one _ _⟩
  have hbd := Fr24.low4_bd ha hb hc hd
  have hRow := row8_ab HW0.out.1 4 rfl 4
  have HRD : Hid _ := Wire.newReader_any W0.heap.size (some ⟨N, 0, none⟩) 4 4 (nums [a, b, c, d]) W0 hRow (by decide) (Nat.le_refl _)
  have hl4 := lowN4 a b c d
  have h8 : Wire.Bytes8 (nums [a, b, c, d]) := fun x hx => by
    obtain ⟨y, hy, rfl⟩ := List.mem_map.1 hx
    simp at hy
    omega
  have HLW : Hid (∀ (B a1 g : Nat) (w : World), Wire.Rd B w a1 g (nums [a, b, c, d]) 0 → Calls Tryd.prog 39 #[.pointer (some ⟨a1, 0, none⟩), .int .i64 4] w fun e w' => e = .returned (.tuple #[.int .u64 (Wire.lowNum (nums [a, b, c, d])), .int .i64 0]) ∧ Wire.Rd B w' a1 g (nums [a, b, c, d]) (0 + 4) ∧ Chg (fun k => k = a1) w w') := fun B a1 g w hr => Wire.rlow_core B a1 g 0 (nums [a, b, c, d]) (nums [a, b, c, d]) 4 w hr (by decide) (by decide) (by rw [nums_len]; exact Nat.le_refl 4) h8 (by show _ = _; rw [List.drop_zero, List.take_of_length_le (by rw [nums_len]; exact Nat.le_refl _)])
  rw [hl4] at HLW
  show Calls Tryd.prog 29 #[.agg #[.int .u8 (a : Int), .int .u8 (b : Int), .int .u8 (c : Int), .int .u8 (d : Int)]] w _
  generalize Fr24.low4 [a, b, c, d] = V at *
  have hVi : (V : Int) < 4294967296 := by omega
  clear hRow hl4 h8 ha hb hc hd hbd
  go_enter Tryd.func29, Tryd.ntmps29
  go_upto_region 1 with fail
  try rw [hN]
  try rw [show w.alloc (.cells #[.int .u8 a, .int .u8 b, .int .u8 c, .int .u8 d] 57) = W0 from hW0]
  clear hW0 hN
  go_wp2_with fail
  refine Calls.mono HRD.out ?_
  rintro z w1 ⟨ra, rfl, hr, c1, hra⟩
  have HC1 : Hid (Chg (fun _ => False) w w1) := chg_then HW0.out.2 c1
  have HL : Hid _ := HLW.out _ ra _ w1 hr
  have HRA : Hid (w.heap.size ≤ ra) := by have := HW0.out.2.size; exact Nat.le_trans this hra
  clear hr c1 hra HRD HLW
  go_wp2_with fail
  refine Calls.mono HL.out ?_
  rintro z w2 ⟨rfl, -, c2⟩
  have HC2 : Hid (Chg (fun _ => False) w w2) := HC1.out.trans c2 (fun z f => .inr (by rw [f]; exact HRA.out))
  clear c2 HL HC1
  go_wp2
  go_ret
  exact ⟨rfl, HC2.out⟩
theorem rheadF_is {bs : List Nat} (h : ¬ bs.length < 12) : Fr24.rheadF bs = if decide (bs.take 6 = Fr24.F6) = true then (if decide ((bs.drop 8).take 4 = crc4 ((bs.drop 6).take 2)) = true then (if fok (bs.getD 6 0) (bs.getD 7 0) = true then ((bs.getD 7 0 : Int), 0) else (0, 4)) else (0, 3)) else (0, 2) := by
  unfold Fr24.rheadF fok
  rw [if_neg h]
  generalize bs.getD 6 0 = x
  generalize bs.getD 7 0 = y
  by_cases h1 : bs.take 6 = Fr24.F6
  · rw [if_neg (by simpa using h1), if_pos (decide_eq_true h1)]
    by_cases h2 : (bs.drop 8).take 4 = crc4 ((bs.drop 6).take 2)
    · rw [if_neg (by simpa using h2), if_pos (decide_eq_true h2)]
      by_cases h3 : x = 0
      · cases h4 : Fr24.kind (y : Int)
        · rw [if_pos (.inr rfl), if_neg (by simp)]
        · rw [if_neg (by simp only [h3]; simp), if_pos (by simp [h3])]
      · rw [if_pos (.inl h3), if_neg (by simp [h3])]
    · rw [if_pos h2, if_neg (by simp [h2])]
  · rw [if_pos h1, if_neg (by simp [h1])]
set_option maxHeartbeats 8000000 in
set_option maxRecDepth 100000 in
theorem rhead24f_any (ad : Option Addr) (n c : Nat) (bs : List Nat) (w : World) (hT : FTab w) (hr : Row8 w ad n c (nums bs)) (hd : Rc.Dig bs) (hnc : n ≤ c) (hn : n ≤ 140737488355328) : Calls Tryd.prog 11 #[.slice ad n c] w fun e w' => e = .returned (.tuple #[.int .i64 (Fr24.rheadF bs).1, .int .i64 (Fr24.rheadF bs).2]) ∧ Chg (fun _ => False) w w' := by
  have hlen : bs.length = n := by have h9 := hr.1; rw [nums_len] at h9; exact h9
  by_cases hs : n < 12
  · have HF : Hid (Fr24.rheadF bs = (0, 1)) := by show _ = _; unfold Fr24.rheadF; rw [if_pos (by omega)]
    have hsi : (n : Int) < 12 := by omega
    have d12 : decide ((n : Int) < 12) = true := decide_eq_true hsi
    clear hT hr hd hnc hlen hs
    go_enter Tryd.func11, Tryd.ntmps11
    go_wp2
    go_ret2
    exact ⟨by rw [HF.out]; rfl, Chg.refl _ _⟩
  · obtain ⟨b, off, rfl, -⟩ := row8_at hr (by omega)
    have hc6 : ∀ ww : World, (Instr.sliceAt 22 (.slice (some ⟨b, off, none⟩) n c) (some (.int .i64 6)) none none).run Tryd.prog ww = .ok (.slice (some ⟨b, off + 6, none⟩) (n - 6) (c - 6)) ww := fun ww => cut_mid (n := n) (c := c) (k := 6) b off (by omega) (by omega) ww
    have hc8 : ∀ ww : World, (Instr.sliceAt 22 (.slice (some ⟨b, off, none⟩) n c) (some (.int .i64 8)) none none).run Tryd.prog ww = .ok (.slice (some ⟨b, off + 8, none⟩) (n - 8) (c - 8)) ww := fun ww => cut_mid (n := n) (c := c) (k := 8) b off (by omega) (by omega) ww
    obtain ⟨n6, hn6⟩ : ∃ m, n - 6 = m := ⟨_, rfl⟩
    obtain ⟨n8, hn8⟩ : ∃ m, n - 8 = m := ⟨_, rfl⟩
    obtain ⟨c6, hc6e⟩ : ∃ m, c - 6 = m := ⟨_, rfl⟩
    obtain ⟨c8, hc8e⟩ : ∃ m, c - 8 = m := ⟨_, rfl⟩
    rw [hn6, hc6e] at hc6
    rw [hn8, hc8e] at hc8
    have ha0 : ∀ w : World, (Instr.arrayAt 56 (.slice (some ⟨b, off, none⟩) n c)).run Tryd.prog w = .ok (.pointer (some ⟨b, off, none⟩)) w := fun w => run_arrayAt w _ _ 6 _ _ _ Tryd.underlying56 (by omega)
    have ha6 : ∀ w : World, (Instr.arrayAt 53 (.slice (some ⟨b, off + 6, none⟩) n6 c6)).run Tryd.prog w = .ok (.pointer (some ⟨b, off + 6, none⟩)) w := fun w => run_arrayAt w _ _ 2 _ _ _ Tryd.underlying53 (by omega)
    have ha8 : ∀ w : World, (Instr.arrayAt 57 (.slice (some ⟨b, off + 8, none⟩) n8 c8)).run Tryd.prog w = .ok (.pointer (some ⟨b, off + 8, none⟩)) w := fun w => run_arrayAt w _ _ 4 _ _ _ Tryd.underlying57 (by omega)
    have d12 : decide ((n : Int) < 12) = false := decide_eq_false (by omega)
    have d12n : decide (n < 12) = false := decide_eq_false (by omega)
    have HR : Hid (Row8 w (some ⟨b, off, none⟩) n c (nums bs)) := hr
    have hF := rheadF_is (bs := bs) (by omega)
    have h2 := Fr24.two_getD (bs := bs) (a := 6) (by omega)
    have hG0 : ∀ ww, Chg (fun _ => False) w ww → ww.rangeAt b off ((nums (bs.take 6)).map (Value.int .u8)) := fun ww hc => range_cut (Bk.row8_chg HR.out hc) 0 6
    have hG6 : ∀ ww, Chg (fun _ => False) w ww → ww.rangeAt b (off + 6) ((nums ((bs.drop 6).take 2)).map (Value.int .u8)) := fun ww hc => range_cut (Bk.row8_chg HR.out hc) 6 2
    have hG8 : ∀ ww, Chg (fun _ => False) w ww → ww.rangeAt b (off + 8) ((nums ((bs.drop 8).take 4)).map (Value.int .u8)) := fun ww hc => range_cut (Bk.row8_chg HR.out hc) 8 4
    rw [h2] at hF hG6
    have hlA : (bs.take 6).length = 6 := by rw [List.length_take]; omega
    have hlD : ((bs.drop 8).take 4).length = 4 := by rw [List.length_take, List.length_drop]; omega
    have hdA := dig_take hd 6
    have hdD : Rc.Dig ((bs.drop 8).take 4) := dig_take (dig_drop hd 8) 4
    have hp := Fr24.dig_get hd 6
    have hq := Fr24.dig_get hd 7
    obtain ⟨A, hA⟩ : ∃ l, bs.take 6 = l := ⟨_, rfl⟩
    obtain ⟨D, hD⟩ : ∃ l, (bs.drop 8).take 4 = l := ⟨_, rfl⟩
    obtain ⟨p, hpe⟩ : ∃ l, bs.getD 6 0 = l := ⟨_, rfl⟩
    obtain ⟨q, hqe⟩ : ∃ l, bs.getD 7 0 = l := ⟨_, rfl⟩
    rw [hA] at hG0 hF hlA hdA
    rw [hD] at hG8 hF hlD hdD
    rw [hpe] at hG6 hF hp
    rw [hqe] at hG6 hF hq
    have hdB : Rc.Dig [p, q] := by intro x hx; simp at hx; omega
    have hne1 : ∀ w : World, (binOp .neq 56 (.agg (abA A)) (.agg (abA Fr24.F6))).run Tryd.prog w = .ok (.bool (!decide (A = Fr24.F6))) w := neq_ab (t := 56) (n := 6) Tryd.underlying56 hdA (by intro x hx; simp [Fr24.F6] at hx; omega) hlA rfl
    have hne2 : ∀ w : World, (binOp .neq 57 (.agg (abA D)) (.agg (abA (crc4 [p, q])))).run Tryd.prog w = .ok (.bool (!decide (D = crc4 [p, q]))) w := neq_ab (t := 57) (n := 4) Tryd.underlying57 hdD (crc4_dig _) hlD (crc4_len _)
    have HSM : Hid (∀ (w1 : World) (g : Nat), Chg (fun _ => False) w w1 → (∀ w', Chg (fun _ => False) w1 w' → Cq.Pieces w' ⟨g, 0, none⟩ [[p, q]]) → Calls Tryd.prog 23 #[.slice (some ⟨g, 0, none⟩) 1 1] w1 fun e w' => e = .returned (ab (crc4 [p, q])) ∧ Chg (fun _ => False) w1 w') := fun w1 g hw hp => by
      have h9 := sumOf_any ⟨g, 0, none⟩ 1 1 [[p, q]] w1 (hT.1.new hw) hp rfl (by decide) (by simpa using hdB)
      rw [show ([[p, q]] : List (List Nat)).flatten = [p, q] by simp] at h9
      exact h9
    have HKI : Hid _ := kindOf_any p q hp hq
    have HDB : Hid (Rc.Dig [p, q]) := hdB
    have HT : Hid (FTab w) := hT
    obtain ⟨CR, hCR⟩ : ∃ l, crc4 [p, q] = l := ⟨_, rfl⟩
    have HCL : Hid (CR.length = 4) := by rw [← hCR]; exact crc4_len _
    rw [hCR] at hne2 HSM hF
    have HAL : Hid (A.length = 6) := hlA
    have HDL : Hid (D.length = 4) := hlD
    have HG0 : Hid _ := hG0
    have HG6 : Hid _ := hG6
    have HG8 : Hid _ := hG8
    obtain ⟨B1, hB1⟩ : ∃ x, decide (A = Fr24.F6) = x := ⟨_, rfl⟩
    obtain ⟨B2, hB2⟩ : ∃ x, decide (D = CR) = x := ⟨_, rfl⟩
    obtain ⟨B3, hB3⟩ : ∃ x, fok p q = x := ⟨_, rfl⟩
    rw [hB1] at hne1 hF
    rw [hB2] at hne2 hF
    rw [hB3] at hF HKI
    have HF : Hid _ := hF
    have hqi : (q : Int) < 256 := by omega
    clear hF h2 hG0 hG6 hG8 hlA hlD hdA hdD hA hD hpe hqe hdB hCR hB1 hB2 hB3 hr hd hT hn6 hn8 hc6e hc8e hnc hlen hp hq
    have hs' : (12 : Int) ≤ (n : Int) := by omega
    clear hs
    go_enter Tryd.func11, Tryd.ntmps11
    go_upto_region 3 with fail
    refine wp_region_all (mk := fun u => #[_, _, _, _, u 4, u 5, u 6, _, _, _, _, _, u 12, u 13, u 14, u 15, u 16, u 17, u 18, u 19, u 20, u 21, u 22, _, _, _, _, _, _, _, _, _, _, _, _, _, _, _, _]) (G := lookG [(12, .slice (some ⟨b, off, none⟩) n c), (13, .pointer (some ⟨b, off, none⟩)), (14, ab A), (15, .slice (some ⟨b, off, none⟩) n c), (16, .slice (some ⟨b, off + 6, none⟩) n6 c6), (17, .pointer (some ⟨b, off + 6, none⟩)), (18, ab [p, q]), (19, .slice (some ⟨b, off, none⟩) n c), (20, .slice (some ⟨b, off + 8, none⟩) n8 c8), (21, .pointer (some ⟨b, off + 8, none⟩)), (22, ab D)]) (J := fun L u ww => BJ w #[] 0 56 53 57 false (L 11) (L 12) (L 13) (L 14) (L 15) (L 16) (if L 14 = true then abA A else abA [0, 0, 0, 0, 0, 0]) (if L 15 = true then abA [p, q] else abA [0, 0]) (if L 16 = true then abA D else abA [0, 0, 0, 0]) undef (u 4) (u 5) (u 6) ww) [11, 12, 13, 14, 15, 16] ([]) (fun _ => undef) rfl (by kernel_rfl) (by kernel_rfl) (by kernel_rfl) ?_ (fun _ => trivial) ?_ ?_ ?_ ?_
    · repeat (refine ⟨fun _ _ => rfl, ?_⟩)
      exact trivial
    · intro L L2 u u2 ww h hj
      have e4 : u 4 = u2 4 := (h 11 (by decide)).2
      have e5 : u 5 = u2 5 := (h 12 (by decide)).2
      have e6 : u 6 = u2 6 := (h 13 (by decide)).2
      have l11 : L 11 = L2 11 := (h 11 (by decide)).1
      have l12 : L 12 = L2 12 := (h 12 (by decide)).1
      have l13 : L 13 = L2 13 := (h 13 (by decide)).1
      have l14 : L 14 = L2 14 := (h 14 (by decide)).1
      have l15 : L 15 = L2 15 := (h 15 (by decide)).1
      have l16 : L 16 = L2 16 := (h 16 (by decide)).1
      show BJ _ _ _ _ _ _ _ _ _ _ _ _ _ _ _ _ _ _ _ _ _
      rw [← e4, ← e5, ← e6, ← l11, ← l12, ← l13, ← l14, ← l15, ← l16]
      exact hj
    · exact BJ.start
    · refine ⟨?_, ?_, ?_, ?_, ?_, ?_, ?_, ?_, ?_, ?_, ?_, ?_, ?_, ?_, ?_, ?_, ?_, trivial⟩
      · show StepRS _ _ _ _ _ _ _ _ -- 12
        unfold StepRS
        intro L u w_ hj hd K hK
        clear hd
        clear hj
        go_simp
        exact hK.out _ rfl
      · show StepRS _ _ _ _ _ _ _ _ -- 13
        unfold StepRS
        intro L u w_ hj hd K hK
        have h12 : u 12 = .slice (some ⟨b, off, none⟩) n c := hd.get 0 (by kernel_rfl)
        clear hd
        simp only [h12] at hK
        clear hj
        go_simp
        exact hK.out _ rfl
      · show StepRS _ _ _ _ _ _ _ _ -- 14
        unfold StepRS
        intro L u w_ hj hd K hK
        have h13 : u 13 = .pointer (some ⟨b, off, none⟩) := hd.get 1 (by kernel_rfl)
        clear hd
        have hR := HG0.out w_ hj.ch
        have hi : (Tryd.prog.info? 56).map (·.size) = some ((nums A).map (Value.int .u8)).length := by rw [List.length_map, nums_len]; first | exact info6x | (simp only [HAL.out]; exact info6x) | (simp only [HDL.out]; exact info6x)
        clear hj
        rw [if_pos (by rfl)]
        exact wp_load_mid 56 (.tmp 13) rfl b (off) h13 _ _ hR Tryd.underlying56 rfl hi (hK.out _ rfl)
      · show StepRS _ _ _ _ _ _ _ _ -- 15
        unfold StepRS
        intro L u w_ hj hd K hK
        clear hd
        clear hj
        go_simp
        exact hK.out _ rfl
      · show StepRS _ _ _ _ _ _ _ _ -- 16
        unfold StepRS
        intro L u w_ hj hd K hK
        have h15 : u 15 = .slice (some ⟨b, off, none⟩) n c := hd.get 3 (by kernel_rfl)
        clear hd
        simp only [h15] at hK
        clear hj
        go_simp
        exact hK.out _ rfl
      · show StepRS _ _ _ _ _ _ _ _ -- 17
        unfold StepRS
        intro L u w_ hj hd K hK
        have h16 : u 16 = .slice (some ⟨b, off + 6, none⟩) n6 c6 := hd.get 4 (by kernel_rfl)
        clear hd
        simp only [h16] at hK
        clear hj
        go_simp
        exact hK.out _ rfl
      · show StepRS _ _ _ _ _ _ _ _ -- 18
        unfold StepRS
        intro L u w_ hj hd K hK
        have h17 : u 17 = .pointer (some ⟨b, off + 6, none⟩) := hd.get 5 (by kernel_rfl)
        clear hd
        have hR := HG6.out w_ hj.ch
        have hi : (Tryd.prog.info? 53).map (·.size) = some ((nums [p, q]).map (Value.int .u8)).length := by rw [List.length_map, nums_len]; first | exact info2x | (simp only [HAL.out]; exact info2x) | (simp only [HDL.out]; exact info2x)
        clear hj
        rw [if_pos (by rfl)]
        exact wp_load_mid 53 (.tmp 17) rfl b (off + 6) h17 _ _ hR Tryd.underlying53 rfl hi (hK.out _ rfl)
      · show StepRS _ _ _ _ _ _ _ _ -- 19
        unfold StepRS
        intro L u w_ hj hd K hK
        clear hd
        clear hj
        go_simp
        exact hK.out _ rfl
      · show StepRS _ _ _ _ _ _ _ _ -- 20
        unfold StepRS
        intro L u w_ hj hd K hK
        have h19 : u 19 = .slice (some ⟨b, off, none⟩) n c := hd.get 7 (by kernel_rfl)
        clear hd
        simp only [h19] at hK
        clear hj
        go_simp
        exact hK.out _ rfl
      · show StepRS _ _ _ _ _ _ _ _ -- 21
        unfold StepRS
        intro L u w_ hj hd K hK
        have h20 : u 20 = .slice (some ⟨b, off + 8, none⟩) n8 c8 := hd.get 8 (by kernel_rfl)
        clear hd
        simp only [h20] at hK
        clear hj
        go_simp
        exact hK.out _ rfl
      · show StepRS _ _ _ _ _ _ _ _ -- 22
        unfold StepRS
        intro L u w_ hj hd K hK
        have h21 : u 21 = .pointer (some ⟨b, off + 8, none⟩) := hd.get 9 (by kernel_rfl)
        clear hd
        have hR := HG8.out w_ hj.ch
        have hi : (Tryd.prog.info? 57).map (·.size) = some ((nums D).map (Value.int .u8)).length := by rw [List.length_map, nums_len]; first | exact info4x | (simp only [HAL.out]; exact info4x) | (simp only [HDL.out]; exact info4x)
        clear hj
        rw [if_pos (by rfl)]
        exact wp_load_mid 57 (.tmp 21) rfl b (off + 8) h21 _ _ hR Tryd.underlying57 rfl hi (hK.out _ rfl)
      · show StepWS _ _ _ _ _ _ _ _ _ -- 4
        unfold StepWS
        intro L u w_ hj hli hwt hd K hK
        clear hd
        have HJ : Hid _ := hj
        have h7 : L 14 = false := off_of hj.s1 hli
        have HZ : Hid ((if L 14 = true then abA A else abA [0, 0, 0, 0, 0, 0]) = abA [0, 0, 0, 0, 0, 0]) := by show _ = _; rw [h7]; rfl
        clear hj hwt hli h7
        go_simp
        exact hK.out _ _ (HJ.out.mk1 HZ.out) trivial
      · show StepWS _ _ _ _ _ _ _ _ _ -- 5
        unfold StepWS
        intro L u w_ hj hli hwt hd K hK
        clear hd
        have HJ : Hid _ := hj
        have h7 : L 15 = false := off_of hj.s2 hli
        have HZ : Hid ((if L 15 = true then abA [p, q] else abA [0, 0]) = abA [0, 0]) := by show _ = _; rw [h7]; rfl
        clear hj hwt hli h7
        go_simp
        exact hK.out _ _ (HJ.out.mk2 HZ.out) trivial
      · show StepWS _ _ _ _ _ _ _ _ _ -- 6
        unfold StepWS
        intro L u w_ hj hli hwt hd K hK
        clear hd
        have HJ : Hid _ := hj
        have h7 : L 16 = false := off_of hj.s3 hli
        have HZ : Hid ((if L 16 = true then abA D else abA [0, 0, 0, 0]) = abA [0, 0, 0, 0]) := by show _ = _; rw [h7]; rfl
        clear hj hwt hli h7
        go_simp
        exact hK.out _ _ (HJ.out.mk3 HZ.out) trivial
      · show StepWS _ _ _ _ _ _ _ _ _ -- #14
        unfold StepWS
        intro L u w_ hj hli hwt hd K hK
        have h14 : u 14 = ab A := hd.get 2 (by kernel_rfl)
        clear hd
        have hl := hwt { on := 11, ground := .data } (by simp) (by kernel_rfl)
        obtain ⟨g, e9, hg, hb⟩ := hj.h1 hl
        have hx := hj.st1 hl e9 (by decide) (abA A)
        have hs9 : (if L 14 = true then abA A else abA [0, 0, 0, 0, 0, 0]).size = (abA A).size := by split <;> simp [abA_size, HAL.out]
        have hi : (Tryd.prog.info? 56).map (·.size) = some (abA A).size := by rw [abA_size]; first | exact info6x | (rw [HAL.out]; exact info6x)
        rw [if_pos (by rfl)]
        exact wp_store_row 56 (.tmp 4) (.tmp 14) rfl g (abA A) e9 h14 56 _ hb hi hs9 (abA_one _) (hK.out undef _ hx trivial)
      · show StepWS _ _ _ _ _ _ _ _ _ -- #15
        unfold StepWS
        intro L u w_ hj hli hwt hd K hK
        have h18 : u 18 = ab [p, q] := hd.get 6 (by kernel_rfl)
        clear hd
        have hl := hwt { on := 12, ground := .data } (by simp) (by kernel_rfl)
        obtain ⟨g, e9, hg, hb⟩ := hj.h2 hl
        have hx := hj.st2 hl e9 (by decide) (abA [p, q])
        have hs9 : (if L 15 = true then abA [p, q] else abA [0, 0]).size = (abA [p, q]).size := by split <;> simp [abA_size, HAL.out]
        have hi : (Tryd.prog.info? 53).map (·.size) = some (abA [p, q]).size := by rw [abA_size]; first | exact info2x | (rw [HAL.out]; exact info2x)
        rw [if_pos (by rfl)]
        exact wp_store_row 53 (.tmp 5) (.tmp 18) rfl g (abA [p, q]) e9 h18 53 _ hb hi hs9 (abA_one _) (hK.out undef _ hx trivial)
      · show StepWS _ _ _ _ _ _ _ _ _ -- #16
        unfold StepWS
        intro L u w_ hj hli hwt hd K hK
        have h22 : u 22 = ab D := hd.get 10 (by kernel_rfl)
        clear hd
        have hl := hwt { on := 13, ground := .data } (by simp) (by kernel_rfl)
        obtain ⟨g, e9, hg, hb⟩ := hj.h3 hl
        have hx := hj.st3 hl e9 (by decide) (abA D)
        have hs9 : (if L 16 = true then abA D else abA [0, 0, 0, 0]).size = (abA D).size := by split <;> simp [abA_size, HDL.out]
        have hi : (Tryd.prog.info? 57).map (·.size) = some (abA D).size := by rw [abA_size]; first | exact info4x | (rw [HDL.out]; exact info4x)
        rw [if_pos (by rfl)]
        exact wp_store_row 57 (.tmp 6) (.tmp 22) rfl g (abA D) e9 h22 57 _ hb hi hs9 (abA_one _) (hK.out undef _ hx trivial)
    · intro u w5 hj hA
      obtain ⟨g4, e4, hg4, hb4⟩ := hj.h1 rfl
      obtain ⟨g5, e5, hg5, hb5⟩ := hj.h2 rfl
      obtain ⟨g6, e6, hg6, hb6⟩ := hj.h3 rfl
      have HB4 : Hid (w5.heap[g4]? = some (.cells (abA A) 56 (0, 0))) := hb4
      have HB5 : Hid (w5.heap[g5]? = some (.cells (abA [p, q]) 53 (0, 0))) := hb5
      have HB6 : Hid (w5.heap[g6]? = some (.cells (abA D) 57 (0, 0))) := hb6
      have HC5 : Hid (Chg (fun _ => False) w w5) := hj.ch
      have HM5 : Hid _ := (HT.out.keep hj.ch).2.1
      simp only [e4, e5, e6]
      clear hj hA e4 e5 e6 hb4 hb5 hb6 hg4 hg5 hg6 HG0 HG6 HG8 ha0 ha6 ha8 hc6 hc8 HR
      obtain ⟨my, mr, hmb⟩ := HM5.out
      have HMB : Hid (w5.heap[0]? = some (.cells (abA Fr24.F6) my mr)) := hmb
      have hi6 : (Tryd.prog.info? 56).map (·.size) = some (abA A).size := by rw [abA_size, HAL.out]; exact info6x
      clear hmb HM5
      cases B1
      · go_wp2_with (first
          | refine wpList_load_row rfl 56 (.tmp 4) rfl g4 rfl 56 _ (0, 0) _ HB4.out Tryd.underlying56 rfl hi6 ?_
          | refine wpList_load_row rfl 56 (.global 0) rfl 0 rfl _ _ _ _ HMB.out Tryd.underlying56 rfl info6x ?_)
        go_wp2
        go_ret2
        exact ⟨by rw [HF.out]; rfl, HC5.out⟩
      · go_upto_region 6 with (first
          | refine wpList_load_row rfl 56 (.tmp 4) rfl g4 rfl 56 _ (0, 0) _ HB4.out Tryd.underlying56 rfl hi6 ?_
          | refine wpList_load_row rfl 56 (.global 0) rfl 0 rfl _ _ _ _ HMB.out Tryd.underlying56 rfl info6x ?_)
        refine wp_region_all (mk := fun u => #[_, _, _, _, _, _, _, _, _, _, _, _, _, _, _, _, _, _, _, _, _, _, _, _, _, _, u 26, u 27, u 28, u 29, u 30, _, _, _, _, _, _, _, _]) (G := lookG [(26, .agg (abA D)), (27, .slice (some ⟨g5, 0, none⟩) 2 2), (29, .agg (abA CR)), (30, .bool (!B2))]) (J := fun L u ww => BJ w5 #[.slice (some ⟨g5, 0, none⟩) 2 2] 1 0 0 0 (L 2) false false false false false false #[] #[] #[] (u 28) undef undef undef ww) [2, 3] ([]) (fun _ => undef) rfl (by kernel_rfl) (by kernel_rfl) (by kernel_rfl) ?_ (fun _ => trivial) ?_ ?_ ?_ ?_
        · repeat (refine ⟨fun _ _ => rfl, ?_⟩)
          exact trivial
        · intro L L2 u u2 ww h hj
          have e28 : u 28 = u2 28 := (h 2 (by decide)).2
          have l2 : L 2 = L2 2 := (h 2 (by decide)).1
          show BJ _ _ _ _ _ _ _ _ _ _ _ _ _ _ _ _ _ _ _ _ _
          rw [← e28, ← l2]
          exact hj
        · exact BJ.start
        · refine ⟨?_, ?_, ?_, ?_, ?_, trivial⟩
          · show StepRS _ _ _ _ _ _ _ _ -- 26
            unfold StepRS
            intro L u w_ hj hd K hK
            clear hd
            have hb2 := blk_keep HB6.out hj.ch (fun f => f)
            have hi4 : (Tryd.prog.info? 57).map (·.size) = some (abA D).size := by rw [abA_size, HDL.out]; exact info4x
            clear hj
            rw [if_pos (by rfl)]
            exact wp_load_row 57 (.tmp 6) rfl g6 rfl _ _ _ _ hb2 Tryd.underlying57 rfl hi4 (hK.out _ rfl)
          · show StepRS _ _ _ _ _ _ _ _ -- 27
            unfold StepRS
            intro L u w_ hj hd K hK
            clear hd
            clear hj
            go_simp
            exact hK.out _ rfl
          · show StepWS _ _ _ _ _ _ _ _ _ -- 28
            unfold StepWS
            intro L u w_ hj hli hwt hd K hK
            have h27 : u 27 = .slice (some ⟨g5, 0, none⟩) 2 2 := hd.get 1 (by kernel_rfl)
            clear hd
            simp only [h27] at hK
            have HJ : Hid _ := hj
            clear hj hwt hli
            go_simp
            exact hK.out _ _ (HJ.out.list) trivial
          · show StepWS _ _ _ _ _ _ _ _ _ -- 29
            unfold StepWS
            intro L u w_ hj hli hwt hd K hK
            clear hd
            have HJ : Hid _ := hj
            obtain ⟨g, e28, -, hb⟩ := hj.hb (hwt { on := 2, ground := .data } (by simp) (by kernel_rfl))
            have hp : ∀ w', Chg (fun _ => False) w_ w' → Cq.Pieces w' ⟨g, 0, none⟩ [[p, q]] := fun w' hc => pcs_one (blk_keep hb hc (fun f => f)) (row8_ab (blk_keep HB5.out (chg_then hj.ch hc) (fun f => f)) 2 rfl 2) HDB.out (by decide)
            have HC : Hid _ := HSM.out w_ g (chg_then HC5.out hj.ch) hp
            clear hj hwt hli hb hp
            simp only [e28] at hK ⊢
            clear e28
            go_simp
            go_at_call 23
            refine Calls.mono HC.out ?_
            rintro z w2 ⟨rfl, c2⟩
            exact hK.out _ w2 (HJ.out.go c2) rfl
          · show StepRS _ _ _ _ _ _ _ _ -- 30
            unfold StepRS
            intro L u w_ hj hd K hK
            have h26 : u 26 = .agg (abA D) := hd.get 0 (by kernel_rfl)
            have h29 : u 29 = .agg (abA CR) := hd.get 3 (by kernel_rfl)
            clear hd
            simp only [h26, h29] at hK
            clear hj
            go_simp
            exact hK.out _ rfl
        · intro u w6 hj hA
          have h30 : u 30 = .bool (!B2) := hA.at 30 (by kernel_rfl)
          have HC6 : Hid (Chg (fun _ => False) w w6) := chg_then HC5.out hj.ch
          have HB56 : Hid (w6.heap[g5]? = some (.cells (abA [p, q]) 53 (0, 0))) := blk_keep HB5.out hj.ch (fun f => f)
          simp only [h30]
          clear hj hA h30 HB4 HB5 HB6 HC5 HMB hi6 HSM
          cases B2
          · go_wp2
            go_ret2
            exact ⟨by rw [HF.out]; rfl, HC6.out⟩
          · have HK6 : Hid _ := HKI.out w6
            go_wp2_with (refine wpList_load_row rfl 53 (.tmp 5) rfl g5 rfl 53 _ (0, 0) _ HB56.out Tryd.underlying53 rfl info2x ?_)
            refine Calls.mono HK6.out ?_
            rintro z w7 ⟨rfl, c7⟩
            have HC7 : Hid (Chg (fun _ => False) w w7) := chg_then HC6.out c7
            clear c7 HK6 HKI HC6 HB56
            cases B3
            · go_wp2
              go_ret2
              exact ⟨by rw [HF.out]; rfl, HC7.out⟩
            · go_wp2
              go_ret2
              exact ⟨by rw [HF.out]; rfl, HC7.out⟩
end Go.Proofs.YtikokgngkagieaaDoor
