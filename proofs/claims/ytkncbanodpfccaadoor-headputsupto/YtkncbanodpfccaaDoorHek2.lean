/- The program's Put of headers, and what is asked of headers ('headSpec'); of no statement by themselves. -/
import Derived.Test.YtkncbanodpfccaaDoorHei
import Derived.Test.YtkncbanodpfccaaDoorClh
namespace Go.Proofs.YtkncbanodpfccaaDoor
open Go.RowKit
open St12
set_option linter.unusedVariables false
set_option linter.unusedSimpArgs false
set_option maxRecDepth 100000 in
theorem words_any (ad : Option Addr) (L c : Nat) (hL : L ≤ 4194400) (w : World) : Calls Tryd.prog 22 #[.slice ad L c] w fun e w' => e = .returned (.int .i64 (((L + 8) / 4 : Nat) : Int)) ∧ w = w' := by
  have hP : Hid (∀ ww, Calls Tryd.prog 39 #[.int .i64 ((L : Int) + 5)] ww fun e w' => e = .returned (.int .i64 ((4 - ((L : Int) + 5) % 4) % 4)) ∧ ww = w') := fun ww => Wire.pad_pos _ ww (by omega) (by omega)
  have i1 : (1 : Int) + (L : Int) + 4 = (L : Int) + 5 := by omega
  obtain ⟨q, hq⟩ : ∃ q : Int, (4 - ((L : Int) + 5) % 4) % 4 = q := ⟨_, rfl⟩
  rw [hq] at hP
  obtain ⟨W, hW⟩ : ∃ W, (L + 8) / 4 = W := ⟨_, rfl⟩
  rw [hW]
  have i2 : (L : Int) + 5 + q = 4 * (W : Int) := by omega
  have hWi : (W : Int) ≤ 1048602 := by omega
  have i3 : (4 * (W : Int)).tdiv 4 = (W : Int) := by rw [Int.tdiv_eq_ediv_of_nonneg (by omega)]; omega
  have hLi : (L : Int) ≤ 4194400 := by omega
  have hq0 : 0 ≤ q := by omega
  have hq1 : q ≤ 3 := by omega
  clear hq hW
  go_enter Tryd.func22, Tryd.ntmps22
  go_wp2_with fail
  refine Calls.mono (hP.out _) ?_
  rintro z w2 ⟨rfl, rfl⟩
  go_wp2
  go_ret
  exact ⟨by first | rfl | (rw [i3]) | go_num, rfl⟩
theorem lowB4 (M : Nat) : Wire.lowBytes (M : Int) 4 = nums (Cq.Crc.low M 4) := by
  have e2 : Cq.Crc.low M 4 = [M % 256, M / 256 % 256, M / 256 / 256 % 256, M / 256 / 256 / 256 % 256] := rfl
  rw [e2]
  simp [Wire.lowBytes, Wire.byteAt, List.range_succ, nums]
  refine ⟨?_, ?_⟩ <;> omega
theorem byO_blkH {w : World} {B g : Nat} {bs : List Nat} (h : w.heap[g]? = some (.cells (Wire.cells8 (nums bs)).toArray 5 (0, 0))) (hB : B ≤ g) (hl : bs.length ≤ 1048576) : ByO w B (.slice (some ⟨g, 0, none⟩) bs.length bs.length) bs := by
  have e : (Wire.cells8 (nums bs)).length = bs.length := by simp [Wire.cells8, nums]
  refine ⟨by simp [ins, nums], .inr ⟨g, bs.length, _, rfl, hB, h, Nat.le_refl _, by unfold maxLen; omega, by simp [Wire.cells8, nums], ?_⟩⟩
  rw [List.take_of_length_le (by simp [Wire.cells8, nums])]
  simp [Wire.cells8, ins]
/-- A header's first bytes and its zeros. -/
def sealP (V : Nat) (I : List Nat) (Z : Nat) : List Nat := V :: (I ++ List.replicate Z 0)
theorem sealP_dig {V Z : Nat} {I : List Nat} (hV : V ≤ 255) (hI : Rc.Dig I) : Rc.Dig (sealP V I Z) := by
  intro x hx
  rcases List.mem_cons.1 hx with rfl | hx
  · omega
  · rcases List.mem_append.1 hx with hx | hx
    · exact hI x hx
    · rw [(List.mem_replicate.1 hx).2]; decide
/-- A step of the writer's. -/
theorem wr_go {B a : Nat} {w0 w w' : World} {v v' : Value} {bs bs' : List Int} (hB : B = w0.heap.size) (h : Chg (fun _ => False) w0 w) (hw : Wire.Wr B w a v bs) (hw' : Wire.Wr B w' a v' bs') (hc : Chg (Foot a v) w w') : Chg (fun _ => False) w0 w' := by
  subst hB
  exact h.trans hc (fun k hk => .inr (hw.foot k hk).1)
set_option maxHeartbeats 8000000 in
set_option maxRecDepth 100000 in
theorem sealed_any (ia : Option Addr) (L ic : Nat) (I : List Nat) (V Z : Nat) (w0 : World) (hT : Cq.Tab w0) (h : Row8 w0 ia L ic (nums I)) (hd : Rc.Dig I) (hV : V ≤ 255) (hL : L + 1 + Z = 4 * V) : Calls Tryd.prog 23 #[.slice ia L ic, .int .i64 ((V : Int) + 1)] w0 fun e w' => ∃ ad, e = .returned (.slice ad (4 * V + 4) (4 * V + 4)) ∧ ByO w' w0.heap.size (.slice ad (4 * V + 4) (4 * V + 4)) (sealP V I Z ++ crc4 (sealP V I Z)) ∧ Chg (fun _ => False) w0 w' := by
  have hil : I.length = L := by have h9 := h.1; rw [nums_len] at h9; exact h9
  have HT : Hid (Cq.Tab w0) := hT
  have HI : Hid (Row8 w0 ia L ic (nums I)) := h
  have hVi : (V : Int) ≤ 255 := by omega
  have hZi : (Z : Int) ≤ 1020 := by omega
  have hLi : (L : Int) ≤ 1020 := by omega
  have i1 : (V : Int) + 1 - 1 = (V : Int) := by omega
  have i2 : 4 * ((V : Int) + 1) - 4 - ((L : Int) + 1) = (Z : Int) := by omega
  have HIL : Hid (I.length = L ∧ L + 1 + Z = 4 * V ∧ V ≤ 255) := ⟨hil, hL, hV⟩
  obtain ⟨P, hP⟩ : ∃ P, sealP V I Z = P := ⟨_, rfl⟩
  have hPl : P.length = 4 * V := by rw [← hP]; unfold sealP; simp; omega
  have hPd : Rc.Dig P := by rw [← hP]; exact sealP_dig hV hd
  have HP : Hid ([(V : Int)] ++ nums I ++ List.replicate Z 0 = nums P) := by
    show _ = _
    rw [← hP]
    simp [sealP, nums]
  obtain ⟨M, hM⟩ : ∃ M, Cq.Crc.more Cq.Crc.P32 32 0 P = M := ⟨_, rfl⟩
  have hm := more_dig hPd
  rw [hM] at hm
  have hmi : (M : Int) < 4294967296 := by omega
  have HPM : Hid (nums P ++ Wire.lowBytes (M : Int) 4 = nums (P ++ crc4 P) ∧ (P ++ crc4 P).length = 4 * V + 4) := by
    refine ⟨?_, by rw [List.length_append, crc4_len, hPl]⟩
    rw [nums_app, lowB4]
    unfold crc4
    rw [hM]
  have HSM : Hid (∀ (w : World) (x : Addr), Chg (fun _ => False) w0 w → Row8 w (some x) (4 * V) (4 * V) (nums P) → Calls Tryd.prog 45 #[.slice (some ⟨w.heap.size, 0, none⟩) 1 1] (w.alloc (.cells #[.slice (some x) (4 * V) (4 * V)] 25)) fun e w' => e = .returned (.int .u32 (M : Int)) ∧ w.alloc (.cells #[.slice (some x) (4 * V) (4 * V)] 25) = w') := fun w x hw hr => by
    have h9 := Cq.sum32_any ⟨w.heap.size, 0, none⟩ 1 1 [P] (w.alloc (.cells #[.slice (some x) (4 * V) (4 * V)] 25)) (HT.out.new (chg_then hw (chg_one w _))) (Cq.pieces_one 25 ⟨some x, 4 * V, 4 * V, rfl, hr, hPd, by omega⟩) rfl (by decide)
    rw [show ([P] : List (List Nat)).flatten = P by simp, hM] at h9
    exact h9
  have HW0 : Hid (Wire.Wr w0.heap.size (w0.alloc (.cells #[.int .i64 0, .slice none 0 0] 112)) w0.heap.size (.slice none 0 0) [] ∧ Chg (fun _ => False) w0 (w0.alloc (.cells #[.int .i64 0, .slice none 0 0] 112))) := ⟨Wire.newWr_at w0.heap.size w0 (Nat.le_refl _), chg_one w0 _⟩
  have HNW := Wire.newWriter_any w0
  rw [hP]
  have HPL : Hid (P.length = 4 * V) := hPl
  clear hT h hd hV hL hil hP hPl hPd hM hm
  go_enter Tryd.func23, Tryd.ntmps23
  go_wp2_with fail
  refine Calls.mono HNW ?_
  rintro z w1 ⟨rfl, rfl⟩
  generalize w0.alloc (.cells #[.int .i64 0, .slice none 0 0] 112) = w1 at *
  obtain ⟨N, hN⟩ : ∃ N, w0.heap.size = N := ⟨_, rfl⟩
  rw [hN] at HW0
  try rw [hN]
  have HN : Hid (w0.heap.size = N) := hN
  clear HNW hN
  have HX1 : Hid _ := Wire.put_m N N (.slice none 0 0) [] [(V : Int)] (some ⟨w1.heap.size, 0, none⟩) 1 1 (w1.alloc (.cells #[.int .u8 (V : Int)] 5)) (HW0.out.1.alloc _) (by have := HW0.out.1.lt; rw [World.size_alloc]; omega) (Wire.row8_one _ _ _) (by simp)
  have HC1 : Hid (Chg (fun _ => False) w0 (w1.alloc (.cells #[.int .u8 (V : Int)] 5)) ∧ Wire.Wr N (w1.alloc (.cells #[.int .u8 (V : Int)] 5)) N (.slice none 0 0) []) := ⟨chg_then HW0.out.2 (chg_one _ _), HW0.out.1.alloc _⟩
  go_wp2_with fail
  refine Calls.mono HX1.out ?_
  rintro z w2 ⟨rfl, v2, hw2, hc2, -⟩
  have HW2 : Hid (Wire.Wr N w2 N v2 ([] ++ [(V : Int)]) ∧ Chg (fun _ => False) w0 w2) := ⟨hw2, wr_go HN.out.symm HC1.out.1 HC1.out.2 hw2 hc2⟩
  clear hw2 hc2 HX1 HC1 HW0
  rw [List.nil_append] at HW2
  have HX2 : Hid _ := Wire.put_m N N v2 [(V : Int)] (nums I) ia L ic w2 HW2.out.1 (by have := HW2.out.1.lt; omega) (Bk.row8_chg HI.out HW2.out.2) (by have := HIL.out; simp only [List.length_singleton]; omega)
  go_wp2_with fail
  refine Calls.mono HX2.out ?_
  rintro z w3 ⟨rfl, v3, hw3, hc3, -⟩
  have HW3 : Hid (Wire.Wr N w3 N v3 ([(V : Int)] ++ nums I) ∧ Chg (fun _ => False) w0 w3) := ⟨hw3, wr_go HN.out.symm HW2.out.2 HW2.out.1 hw3 hc3⟩
  clear hw3 hc3 HX2 HW2
  have hX3 := Wire.len_any N N v3 ([(V : Int)] ++ nums I) w3 HW3.out.1
  have hll : ((([(V : Int)] ++ nums I).length : Nat) : Int) = (L : Int) + 1 := by rw [List.length_append, nums_len, HIL.out.1, List.length_singleton]; omega
  rw [hll] at hX3
  have HX3 : Hid _ := hX3
  clear hX3 hll
  go_wp2_with fail
  refine Calls.mono HX3.out ?_
  rintro z w4 ⟨rfl, rfl⟩
  have HX4 : Hid _ := Wire.zeros_yes N N v3 ([(V : Int)] ++ nums I) Z w3 HW3.out.1 (by have := HW3.out.1.lt; omega) (by omega) (by have := HIL.out; rw [List.length_append, nums_len, List.length_singleton]; omega)
  clear HX3
  go_wp2_with fail
  refine Calls.mono HX4.out ?_
  rintro z w5 ⟨rfl, v5, hw5, hc5, -⟩
  rw [HP.out] at hw5
  have HW5 : Hid (Wire.Wr N w5 N v5 (nums P) ∧ Chg (fun _ => False) w0 w5) := ⟨hw5, wr_go HN.out.symm HW3.out.2 HW3.out.1 hw5 hc5⟩
  clear hw5 hc5 HX4 HW3
  have hX5 := Wire.bytes_any N N v5 (nums P) w5 HW5.out.1 (by rw [nums_len, HPL.out]; have := HIL.out; omega)
  rw [nums_len, HPL.out] at hX5
  have HX5 : Hid _ := hX5
  clear hX5
  go_wp2_with fail
  refine Calls.mono HX5.out ?_
  rintro z w6 ⟨rfl, hb6, c6⟩
  have HW6 : Hid (Wire.Wr N w6 N v5 (nums P) ∧ Chg (fun _ => False) w0 w6) := ⟨HW5.out.1.keep c6 (fun f => f) (fun _ _ f => f), chg_then HW5.out.2 c6⟩
  have hr6 := Wire.row8_blk hb6 (4 * V) (by rw [nums_len, HPL.out]) (4 * V)
  have HX6 : Hid _ := HSM.out w6 ⟨w5.heap.size, 0, none⟩ HW6.out.2 hr6
  clear hb6 c6 hr6 HX5 HW5 HSM
  go_wp2_with fail
  refine Calls.mono HX6.out ?_
  rintro z w7 ⟨rfl, hw7⟩
  have HW7 : Hid (Wire.Wr N w7 N v5 (nums P) ∧ Chg (fun _ => False) w0 w7) := by
    rw [← hw7]
    exact ⟨HW6.out.1.alloc _, chg_then HW6.out.2 (chg_one _ _)⟩
  clear HX6 HW6
  subst hw7
  have HX7 : Hid _ := Wire.low_yes N N v5 (nums P) (M : Int) 4 _ HW7.out.1 (by have := HW7.out.1.lt; omega) (by decide) (by decide) (by rw [nums_len, HPL.out]; have := HIL.out; omega)
  go_wp2_with fail
  refine Calls.mono HX7.out ?_
  rintro z w8 ⟨rfl, v8, hw8, hc8, -⟩
  rw [HPM.out.1] at hw8
  have HW8 : Hid (Wire.Wr N w8 N v8 (nums (P ++ crc4 P)) ∧ Chg (fun _ => False) w0 w8) := ⟨hw8, wr_go HN.out.symm HW7.out.2 HW7.out.1 hw8 hc8⟩
  clear hw8 hc8 HX7 HW7
  have hX8 := Wire.bytes_any N N v8 (nums (P ++ crc4 P)) w8 HW8.out.1 (by rw [nums_len, HPM.out.2]; have := HIL.out; omega)
  rw [nums_len, HPM.out.2] at hX8
  have HX8 : Hid _ := hX8
  clear hX8
  go_wp2_with fail
  refine Calls.mono HX8.out ?_
  rintro z w9 ⟨rfl, hb9, c9⟩
  have HF : Hid (ByO w9 w0.heap.size (.slice (some ⟨w8.heap.size, 0, none⟩) (4 * V + 4) (4 * V + 4)) (P ++ crc4 P) ∧ Chg (fun _ => False) w0 w9) := by
    refine ⟨?_, chg_then HW8.out.2 c9⟩
    have h9 := byO_blkH hb9 (show w0.heap.size ≤ w8.heap.size from HW8.out.2.size) (by rw [HPM.out.2]; have := HIL.out; omega)
    rw [HPM.out.2] at h9
    exact h9
  clear hb9 c9 HX8 HW8
  go_wp2
  go_ret
  exact ⟨_, rfl, HF.out.1, HF.out.2⟩
theorem sealP_body (pk sz by_ : Int) (fs : List Flt) (p L W V Z : Nat) (hL : (inP pk sz fs fs.length).length = L) (hW : (L + 8) / 4 = W) (hV : V + 1 = W + p) (hZ : Z = Hd21.need (Hd21.room0 ⟨pk, sz, fs, by_⟩).length + 4 * p) : sealP V (inP pk sz fs fs.length) Z = Hd21.body ⟨pk, sz, fs, by_⟩ p ∧ L + 1 + Z = 4 * V ∧ L = (Hd21.room0 ⟨pk, sz, fs, by_⟩).length + 1 := by
  have e := inP_end pk sz by_ fs
  rw [e] at hL ⊢
  have hrl := Hd21.room_len ⟨pk, sz, fs, by_⟩ p
  obtain ⟨R0, hR0⟩ : ∃ R, Hd21.room0 ⟨pk, sz, fs, by_⟩ = R := ⟨_, rfl⟩
  rw [hR0] at hL hZ hrl ⊢
  rw [List.length_cons] at hL
  have hn := Hd21.need_is R0.length
  refine ⟨?_, by omega, by omega⟩
  unfold Hd21.body
  rw [hrl]
  unfold sealP Hd21.room
  rw [hR0]
  have e1 : (R0.length + Hd21.need R0.length + 4 * p + 6) / 4 - 1 = V := by omega
  rw [e1, hZ, ← List.replicate_append_replicate]
  simp
set_option maxHeartbeats 16000000 in
set_option maxRecDepth 100000 in
theorem put21_any (C : ChainSpec Vint.Tab) (pk sz by_ pad : Int) (fa : Option Addr) (fn fc : Nat) (l : List FlV) (w0 : World) (hT : Vint.Tab w0 ∧ Cq.Tab w0) (ip : I64 pk) (is : I64 sz) (ib : I64 by_) (id_ : I64 pad) (h : FlL w0 fa l) (hl : l.length = fn) (hc : fn ≤ fc) (hn : fn ≤ 1048576) (hx : ∀ (k : Nat) (x : FlV), l[k]? = some x → x.n ≤ 1048576) : Calls Tryd.prog 8 #[hdv pk sz (.slice fa fn fc) by_, .int .i64 pad] w0 fun e w' => ∃ ov, e = .returned (.tuple #[ov, .int .i64 (Hd21.putH ⟨pk, sz, l.map FlV.f, by_⟩ pad).2]) ∧ ByO w' w0.heap.size ov (Hd21.putH ⟨pk, sz, l.map FlV.f, by_⟩ pad).1 ∧ Chg (fun _ => False) w0 w' := by
  have HIN := fun (w : World) (c : Chg (fun _ => False) w0 w) (k1 : pk = -1 ∨ 1 ≤ pk) (k2 : -1 ≤ sz) (k3 : 1 ≤ fn) (k4 : fn ≤ 4) => inner21_any C pk sz by_ fa fn fc l w (hT.1.new c) k1 k2 ip is (h.new c) hl k3 k4 hx
  obtain ⟨fs, hfs⟩ : ∃ fs, l.map FlV.f = fs := ⟨_, rfl⟩
  have hfl : fs.length = fn := by rw [← hfs, List.length_map, hl]
  have hdg : ∀ f ∈ fs, Rc.Dig f.ps := by
    intro f hf
    rw [← hfs] at hf
    obtain ⟨x, hx9, rfl⟩ := List.mem_map.1 hf
    obtain ⟨k, hk9⟩ := List.mem_iff_getElem?.1 hx9
    exact (h k x hk9).1.dig
  rw [hfs] at HIN ⊢
  have HE : Hid (Hd21.putE ⟨pk, sz, fs, by_⟩ pad = if (pk ≠ -1 ∧ pk < 1) ∨ sz < -1 ∨ pad < 0 then 7 else if fn < 1 ∨ 4 < fn then 6 else if (Hd21.putAll fs).2 ≠ 0 then (Hd21.putAll fs).2 else if 1018 < ((Hd21.room0 ⟨pk, sz, fs, by_⟩).length + Hd21.need (Hd21.room0 ⟨pk, sz, fs, by_⟩).length : Nat) + 4 * pad then 7 else 0) := by
    show _ = _
    unfold Hd21.putE
    simp only [hfl]
  have HN : Hid (∀ e : Int, e ≠ 0 → Hd21.putE ⟨pk, sz, fs, by_⟩ pad = e → Hd21.putH ⟨pk, sz, fs, by_⟩ pad = ([], e)) := fun e h1 h2 => by
    unfold Hd21.putH
    rw [if_pos (by rw [h2]; exact h1), h2]
  have HIH : Hid _ := HIN
  have HT : Hid (Vint.Tab w0 ∧ Cq.Tab w0) := hT
  have HFL : Hid (fs.length = fn ∧ (∀ f ∈ fs, Rc.Dig f.ps) ∧ pk ≤ 9223372036854775807 ∧ sz ≤ 9223372036854775807 ∧ pad ≤ 9223372036854775807) := ⟨hfl, hdg, ip.2, is.2, id_.2⟩
  have p1 := id_.1
  have p2 := id_.2
  have hni : (fn : Int) ≤ 1048576 := by omega
  have cA := chg_one w0 (.cells #[.int .i64 pk, .int .i64 sz, .slice fa fn fc, .int .i64 by_] 24)
  have bA := heap_alloc_last w0 (.cells #[.int .i64 pk, .int .i64 sz, .slice fa fn fc, .int .i64 by_] 24)
  obtain ⟨x0, x1, x2, x3⟩ := cells4h bA
  have HCA : Hid (Chg (fun _ => False) w0 (w0.alloc (.cells #[.int .i64 pk, .int .i64 sz, .slice fa fn fc, .int .i64 by_] 24))) := cA
  have HM : Hid (∀ (n least : Int) (w : World), Calls Tryd.prog 20 #[.int .i64 n, .int .i64 least] w fun e w' => e = .returned (.bool (decide (n = -1 ∨ least ≤ n))) ∧ w = w') := fun n least w => mayBe_any n least w
  unfold hdv
  unfold hdv at HIH
  clear hT ip is ib id_ h hl hx hfs hfl hdg cA bA HIN hn
  go_enter Tryd.func8, Tryd.ntmps8
  go_upto_region 1 with fail
  generalize w0.alloc (.cells #[.int .i64 pk, .int .i64 sz, .slice fa fn fc, .int .i64 by_] 24) = w1 at *
  by_cases hp : pk = -1 ∨ 1 ≤ pk
  rotate_left
  · have hM := HM.out pk 1 w1
    rw [decide_eq_false hp] at hM
    have HM1 : Hid _ := hM
    have hq := HN.out 7 (by decide) (by rw [HE.out, if_pos (by omega)])
    clear hp hM HE HN HIH
    go_wp2_with fail
    refine Calls.mono HM1.out ?_
    rintro z w2 ⟨rfl, rfl⟩
    go_wp2
    go_ret2
    exact ⟨.slice none 0 0, by rw [hq]; rfl, by rw [hq]; exact byO_nil _ _, HCA.out⟩
  by_cases hs : sz = -1 ∨ 0 ≤ sz
  rotate_left
  · have hM := HM.out pk 1 w1
    rw [decide_eq_true hp] at hM
    have HM1 : Hid _ := hM
    have hM2 := HM.out sz 0 w1
    rw [decide_eq_false hs] at hM2
    have HM2 : Hid _ := hM2
    have hq := HN.out 7 (by decide) (by rw [HE.out, if_pos (by omega)])
    clear hp hs hM hM2 HE HN HIH
    go_wp2_with fail
    refine Calls.mono HM1.out ?_
    rintro z w2 ⟨rfl, rfl⟩
    go_wp2_with fail
    refine Calls.mono HM2.out ?_
    rintro z w2 ⟨rfl, rfl⟩
    go_wp2
    go_ret2
    exact ⟨.slice none 0 0, by rw [hq]; rfl, by rw [hq]; exact byO_nil _ _, HCA.out⟩
  have hM := HM.out pk 1 w1
  rw [decide_eq_true hp] at hM
  have HM1 : Hid _ := hM
  have hM2 := HM.out sz 0 w1
  rw [decide_eq_true hs] at hM2
  have HM2 : Hid _ := hM2
  clear hM hM2 HM
  by_cases hpd : pad < 0
  · have d1 : decide (pad < 0) = true := decide_eq_true hpd
    have hq := HN.out 7 (by decide) (by rw [HE.out, if_pos (by omega)])
    clear hp hs hpd HE HN HIH
    go_wp2_with fail
    refine Calls.mono HM1.out ?_
    rintro z w2 ⟨rfl, rfl⟩
    go_wp2_with fail
    refine Calls.mono HM2.out ?_
    rintro z w2 ⟨rfl, rfl⟩
    go_wp2
    go_ret2
    exact ⟨.slice none 0 0, by rw [hq]; rfl, by rw [hq]; exact byO_nil _ _, HCA.out⟩
  have d1 : decide (pad < 0) = false := decide_eq_false hpd
  have hE1 := HE.out
  rw [if_neg (by omega)] at hE1
  by_cases h0 : fn = 0
  · have y1 : ((fn : Int) == 0) = true := by simp [h0]
    have hq := HN.out 6 (by decide) (by rw [hE1, if_pos (by omega)])
    clear hp hs hpd HE HN HIH hE1 h0
    go_wp2_with fail
    refine Calls.mono HM1.out ?_
    rintro z w2 ⟨rfl, rfl⟩
    go_wp2_with fail
    refine Calls.mono HM2.out ?_
    rintro z w2 ⟨rfl, rfl⟩
    go_wp2
    go_ret2
    exact ⟨.slice none 0 0, by rw [hq]; rfl, by rw [hq]; exact byO_nil _ _, HCA.out⟩
  have y1 : ((fn : Int) == 0) = false := by simp; omega
  by_cases h4 : 4 < fn
  · have d4 : decide (4 < (fn : Int)) = true := decide_eq_true (by omega)
    have d4' : decide ((fn : Int) > 4) = true := d4
    have d4'' : decide (4 < fn) = true := decide_eq_true h4
    have hq := HN.out 6 (by decide) (by rw [hE1, if_pos (by omega)])
    clear hp hs hpd HE HN HIH hE1 h0
    go_wp2_with fail
    refine Calls.mono HM1.out ?_
    rintro z w2 ⟨rfl, rfl⟩
    go_wp2_with fail
    refine Calls.mono HM2.out ?_
    rintro z w2 ⟨rfl, rfl⟩
    go_wp2
    go_ret2
    exact ⟨.slice none 0 0, by rw [hq]; rfl, by rw [hq]; exact byO_nil _ _, HCA.out⟩
  have d4 : decide (4 < (fn : Int)) = false := decide_eq_false (by omega)
  have d4' : decide ((fn : Int) > 4) = false := d4
  have d4'' : decide (4 < fn) = false := decide_eq_false h4
  rw [if_neg (by omega)] at hE1
  have HE1 : Hid _ := hE1
  have HX : Hid _ := HIH.out w1 HCA.out hp (by omega) (by omega) (by omega)
  have HPD : Hid (¬ pad < 0) := hpd
  have hp0 : 0 ≤ pad := by omega
  clear hp hs HE HIH hE1 h0
  go_wp2_with fail
  refine Calls.mono HM1.out ?_
  rintro z w2 ⟨rfl, rfl⟩
  go_wp2_with fail
  refine Calls.mono HM2.out ?_
  rintro z w2 ⟨rfl, rfl⟩
  go_wp2_with fail
  refine Calls.mono HX.out ?_
  rintro z w2 ⟨⟨he, rfl⟩ | ⟨he, ia, L, ic, rfl, hby, hil, hL⟩, c2⟩
  · obtain ⟨E, hE⟩ : ∃ E, (Hd21.putAll fs).2 = E := ⟨_, rfl⟩
    have hq := HN.out (Hd21.putAll fs).2 he (by rw [HE1.out, if_pos he])
    rw [hE] at he hq ⊢
    have z1 : (E != 0) = true := by simpa using he
    have z2 : (E == 0) = false := by simpa using he
    have HC2 : Hid (Chg (fun _ => False) w0 w2) := chg_then HCA.out c2
    clear he hE c2 HE1 HN HX
    go_wp2
    go_ret2
    exact ⟨.slice none 0 0, by rw [hq]; rfl, by rw [hq]; exact byO_nil _ _, HC2.out⟩
  · have HC2 : Hid (Chg (fun _ => False) w0 w2) := chg_then HCA.out c2
    obtain ⟨W, hW⟩ : ∃ W, (L + 8) / 4 = W := ⟨_, rfl⟩
    have hWd : Hid _ := words_any ia L ic hL w2
    rw [hW] at hWd
    have hWi : (W : Int) ≤ 1048602 := by omega
    have hW1 : 1 ≤ W := by omega
    have hE2 := HE1.out
    rw [if_neg (by simpa using he)] at hE2
    obtain ⟨p, hpp⟩ : ∃ p : Nat, pad = (p : Int) := ⟨pad.toNat, by omega⟩
    have HSB : Hid (∀ V Z, V + 1 = W + p → Z = Hd21.need (Hd21.room0 ⟨pk, sz, fs, by_⟩).length + 4 * p → sealP V (inP pk sz fs fn) Z = Hd21.body ⟨pk, sz, fs, by_⟩ p ∧ L + 1 + Z = 4 * V ∧ L = (Hd21.room0 ⟨pk, sz, fs, by_⟩).length + 1) := fun V Z h1 h2 => by
      have h9 := sealP_body pk sz by_ fs p L W V Z (by rw [HFL.out.1]; exact hil) hW h1 h2
      rw [HFL.out.1] at h9
      exact h9
    have hsb := HSB.out (W + p - 1) _ (by omega) rfl
    have hneed := Hd21.need_is (Hd21.room0 ⟨pk, sz, fs, by_⟩).length
    by_cases hbig : 256 - (W : Int) < pad
    · have d5 : decide (256 - (W : Int) < pad) = true := decide_eq_true hbig
      have hq := HN.out 7 (by decide) (by rw [hE2, if_pos (by omega)])
      clear hsb hneed hbig hE2 hW hpp he hil hL c2 hby HE1 HN HX hpd HSB
      go_wp2_with fail
      refine Calls.mono hWd.out ?_
      rintro z w3 ⟨rfl, rfl⟩
      go_wp2
      go_ret2
      exact ⟨.slice none 0 0, by rw [hq]; rfl, by rw [hq]; exact byO_nil _ _, HC2.out⟩
    · have d5 : decide (256 - (W : Int) < pad) = false := decide_eq_false hbig
      rw [if_neg (by omega)] at hE2
      have hq := Hd21.putH_0 hE2
      obtain ⟨V, hV⟩ : ∃ V, W + p - 1 = V := ⟨_, rfl⟩
      obtain ⟨Z, hZ⟩ : ∃ Z, Hd21.need (Hd21.room0 ⟨pk, sz, fs, by_⟩).length + 4 * p = Z := ⟨_, rfl⟩
      rw [hV, hZ] at hsb
      have hdi : Rc.Dig (inP pk sz fs fn) := by
        have h1 : Rc.Dig (sealP V (inP pk sz fs fn) Z) := by
          rw [hsb.1]
          have := Hd21.body_dig hE2 HFL.out.2.1
          rw [hpp, Int.toNat_natCast] at this
          exact this
        intro x hx9
        exact h1 x (List.mem_cons_of_mem _ (List.mem_append_left _ hx9))
      have hrow := (byO_row hby).1
      have HX2 : Hid _ := sealed_any ia L ic (inP pk sz fs fn) V Z w2 (HT.out.2.new HC2.out) hrow hdi (by omega) hsb.2.1
      have i5 : (W : Int) + pad = (V : Int) + 1 := by omega
      have HQ : Hid (Hd21.putH ⟨pk, sz, fs, by_⟩ pad = (sealP V (inP pk sz fs fn) Z ++ crc4 (sealP V (inP pk sz fs fn) Z), 0)) := by
        show _ = _
        rw [hq, hsb.1, hpp, Int.toNat_natCast]
      have HS2 : Hid (w0.heap.size ≤ w2.heap.size) := HC2.out.size
      have HLN : Hid ((sealP V (inP pk sz fs fn) Z ++ crc4 (sealP V (inP pk sz fs fn) Z)).length = 4 * V + 4) := by
        show _ = _
        rw [List.length_append, crc4_len]
        unfold sealP
        have := hsb.2.1
        simp only [List.length_cons, List.length_append, List.length_replicate]
        omega
      have hVi : (V : Int) ≤ 255 := by omega
      clear hsb hneed hbig hE2 hW he hil hL c2 hby HE1 HN HX hpd HSB hq hV hZ hdi hrow hpp
      go_wp2_with fail
      refine Calls.mono hWd.out ?_
      rintro z w3 ⟨rfl, rfl⟩
      go_wp2_with fail
      refine Calls.mono HX2.out ?_
      rintro z w4 ⟨sa, rfl, hs4, c4⟩
      have HF : Hid (ByO w4 w0.heap.size (.slice sa (4 * V + 4) (4 * V + 4)) (sealP V (inP pk sz fs fn) Z ++ crc4 (sealP V (inP pk sz fs fn) Z)) ∧ Chg (fun _ => False) w0 w4) := ⟨owns_base hs4 HS2.out, chg_then HC2.out c4⟩
      clear hs4 c4 HX2 HLN
      go_wp2
      go_ret2
      exact ⟨_, by rw [HQ.out]; rfl, by rw [HQ.out]; exact HF.out.1, HF.out.2⟩
def HdTab (w : World) : Prop := Vint.Tab w ∧ Cq.Tab w
theorem headSpec : HeadSpec HdTab where
  keep := fun h hc => ⟨h.1.new hc, h.2.new hc⟩
  put := fun pk sz by_ pad fa fn fc l w hT ip is ib id_ h hl hc hn hx => put21_any chainSpec pk sz by_ pad fa fn fc l w hT ip is ib id_ h hl hc hn hx
  get := fun ad n c bs w hT h hd hc hn => get21_any chainSpec ad n c bs w hT h hd hc hn
theorem chainSpecH : ChainSpec HdTab where
  keep := fun h hc => ⟨h.1.new hc, h.2.new hc⟩
  put := fun id a n c bs w hT h => chainSpec.put id a n c bs w hT.1 h
  get := fun ad n cp bs w hT h1 h2 h3 h4 => chainSpec.get ad n cp bs w hT.1 h1 h2 h3 h4
  read := fun ad n c l w hT h1 h2 h3 h4 => chainSpec.read ad n c l w hT.1 h1 h2 h3 h4
theorem half_at : ∀ k : Fin 16, tab0[k.val]? = some ((Cq.Crc.itr Cq.Crc.P32 4 k.val : Nat) : Int) := by decide +kernel
theorem hdtab_of_laid {W : World} (h : Tab W) : HdTab W := ⟨vtab_of_laid h, fun k hk => tab_at0 h (half_at ⟨k, hk⟩)⟩
end Go.Proofs.YtkncbanodpfccaaDoor
