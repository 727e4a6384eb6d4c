/- The walk of WindowRows above what is asked of the program's windows; of no statement by itself. -/
import Derived.Test.YthgibmhbgfjkcaaWp
namespace Go.Proofs.Ythgibmhbgfjkcaa
open Go.RowKit
set_option linter.unusedVariables false

variable {Win : World → Nat → Nat → Value → Nat → List Nat → Prop}
theorem str_app (a b : List Int) : strOfNums (a ++ b) = strOfNums a ++ strOfNums b := by
  unfold strOfNums
  apply ByteArray.ext
  simp [ByteArray.data_append]
theorem str_size (a : List Int) : (strOfNums a).size = a.length := by
  unfold strOfNums
  simp [ByteArray.size]
set_option maxHeartbeats 4000000 in
set_option maxRecDepth 100000 in
theorem wrows_any (S : WinSpec Win) (ad : Option Addr) (L c : Nat) (bs : List Nat) (dist am mm : Int) (w0 : World) (hr : Row8 w0 ad L c (nums bs)) (hdig : Rc.Dig bs) (hL : L ≤ 140737488355328) (hdi : I64 dist) (ha : I64 am) (hm : I64 mm) : Calls Try.prog 3 #[.slice ad L c, .int .i64 dist, .int .i64 am, .int .i64 mm] w0 fun e w' => e = .returned (.bool true) ∧ Chg (fun _ => False) w0 w' := by
  have hne := pW_ne
  have HR0 : Hid (Row8 w0 ad L c (nums bs)) := hr
  have HBL : Hid (bs.length = L) := by have := hr.1; rw [nums_len] at this; exact this
  obtain ⟨ha1, ha2⟩ := ha
  obtain ⟨hm1, hm2⟩ := hm
  obtain ⟨hdi1, hdi2⟩ := hdi
  have HMD1 : Hid _ := made_any S 2000 2000 rfl ad L c bs w0 hr hdig hL
  clear hr
  go_enter Try.func3, Try.ntmps3
  go_wp2_with fail
  refine Calls.mono HMD1.out ?_
  rintro z w1 ⟨a, v, rfl, hw1, c1⟩
  have HW1 : Hid (Win w1 w0.heap.size a v 2000 bs) := hw1
  have HC1 : Hid (Chg (fun _ => False) w0 w1) := c1
  have HMD2 : Hid _ := made_any S 2000 2000 rfl ad L c bs w1 (Bk.row8_chg HR0.out c1) hdig hL
  clear hw1 c1 HMD1
  go_wp2_with fail
  refine Calls.mono HMD2.out ?_
  rintro z w2 ⟨b, u, rfl, hw2, c2⟩
  have HU2 : Hid (Win w2 w1.heap.size b u 2000 bs) := hw2
  have HW2 : Hid (Win w2 w0.heap.size a v 2000 bs) := S.new HW1.out c2
  have HLT : Hid (∀ z, Foot a v z → z < w1.heap.size) := fun z f => (S.lt HW1.out z f).2
  have HC2 : Hid (Chg (fun _ => False) w0 w2) := chg_then HC1.out c2
  have HS1 : Hid (w0.heap.size ≤ w1.heap.size ∧ w1.heap.size ≤ w2.heap.size) := ⟨HC1.out.size, c2.size⟩
  clear hw2 c2 HMD2 HW1 HC1
  by_cases g0 : L = 0
  · subst g0
    go_wp2
    go_ret
    exact ⟨rfl, HC2.out⟩
  have e0 : decide ((L : Int) = 0) = false := by simp; omega
  by_cases g1 : 2000 < L
  · have e1 : decide ((2000 : Int) < (L : Int)) = true := by simp; omega
    go_wp2
    go_ret
    exact ⟨rfl, HC2.out⟩
  have e1 : decide ((2000 : Int) < (L : Int)) = false := by simp; omega
  by_cases g2 : am < 0
  · have e2 : decide (am < 0) = true := by simp; omega
    go_wp2
    go_ret
    exact ⟨rfl, HC2.out⟩
  have e2 : decide (am < 0) = false := by simp; omega
  by_cases g3 : mm < 0
  · have e3 : decide (mm < 0) = true := by simp; omega
    go_wp2
    go_ret
    exact ⟨rfl, HC2.out⟩
  have e3 : decide (mm < 0) = false := by simp; omega
  by_cases g4 : 273 < am
  · have e4 : decide (273 < am) = true := by simp; omega
    go_wp2
    go_ret
    exact ⟨rfl, HC2.out⟩
  have e4 : decide (273 < am) = false := by simp; omega
  by_cases g5 : 273 - am < mm
  · have e5 : decide (273 - am < mm) = true := by simp; omega
    go_wp2
    go_ret
    exact ⟨rfl, HC2.out⟩
  have e5 : decide (273 - am < mm) = false := by simp; omega
  obtain ⟨A, rfl⟩ := Int.eq_ofNat_of_zero_le (show 0 ≤ am by omega)
  obtain ⟨M, rfl⟩ := Int.eq_ofNat_of_zero_le (show 0 ≤ mm by omega)
  obtain ⟨q, hq⟩ : ∃ q, dist.tmod (L : Int) = q := ⟨_, rfl⟩
  have hq1 : -(L : Int) < q ∧ q < (L : Int) := by
    rw [← hq]
    exact ⟨by have := Int.lt_tmod_of_pos dist (show (0 : Int) < (L : Int) by omega); omega, Int.tmod_lt_of_pos dist (by omega)⟩
  have hA : A ≤ 273 := by omega
  have hM : A + M ≤ 273 := by omega
  clear g2 g3 g4 g5 ha1 ha2 hm1 hm2
  by_cases h0 : q < 0
  · skip
    have hq0 : q < 0 := h0
    have hd6 : decide (q < 0) = true := by simp; omega
    obtain ⟨D, hDq⟩ : ∃ D : Nat, -q + 1 = (D : Int) := ⟨(-q + 1).toNat, by omega⟩
    have HD : Hid (1 ≤ D ∧ D ≤ L) := by show _ ∧ _; omega
    have hD2 : (D : Int) ≤ 2000 := by have := HD.out; omega
    have HCP : Hid (∀ (b2 : List Nat) (m : Nat), bs.length ≤ b2.length → m ≤ 273 → Cpy 2000 b2 (D : Int) (m : Int)) := fun b2 m h1 h2 => ⟨⟨by have := HD.out; omega, by unfold fullN; have := HD.out; have := HBL.out; omega⟩, by omega, by omega⟩
    clear hq1 hq0
    go_wp2_with fail
    refine (S.copy w0.heap.size a v 2000 bs (D : Int) ((A : Int) + (M : Int)) w2 HW2.out HC2.out.size ⟨by omega, by omega⟩ ⟨by omega, by omega⟩ (by have := HBL.out; omega)).mono ?_
    rintro z w3 (⟨hbad, _⟩ | ⟨_, xv, v3, rfl, hw3, ho3, hap3, c3, m3⟩)
    · exact absurd (HCP.out bs (A + M) (Nat.le_refl _) (by omega)) (by have h9 := hbad; rw [show (A : Int) + (M : Int) = ((A + M : Nat) : Int) by omega] at h9; exact h9)
    rw [show ((A : Int) + (M : Int)).toNat = A + M by omega, show ((D : Int)).toNat = D from Int.toNat_natCast D] at ho3 hw3
    obtain ⟨xa, xc, hxv⟩ := form1 ho3
    subst hxv
    obtain ⟨xs, hxs⟩ : ∃ xs, copyL D bs (A + M) = xs := ⟨_, rfl⟩
    rw [hxs] at ho3
    have HXS : Hid (copyL D bs (A + M) = xs) := hxs
    have HX3 : Hid (w3.ownsRow w2.heap.size 5 1 (.slice xa (A + M) xc) (A + M) (ins .u8 (nums xs))) := ho3
    have HU3 : Hid (Win w3 w1.heap.size b u 2000 bs) := S.keep HU2.out c3 (fun z f g => by have h1 := HLT.out z g; have h2 := (S.lt HU2.out z f).1; omega)
    have HC3 : Hid (Chg (fun _ => False) w0 w3) := HC2.out.trans c3 (fun z f => .inr (S.lt HW2.out z f).1)
    have HULT : Hid (∀ z, Foot b u z → z < w2.heap.size) := fun z f => (S.lt HU2.out z f).2
    have HS3 : Hid (w2.heap.size ≤ w3.heap.size) := c3.size
    clear hw3 ho3 hap3 c3 m3 hxs HW2 HU2 HC2 HLT
    go_wp2_with fail
    refine (S.copy w1.heap.size b u 2000 bs (D : Int) (A : Int) w3 HU3.out (Nat.le_trans HS1.out.2 HS3.out) ⟨by omega, by omega⟩ ⟨by omega, by omega⟩ (by have := HBL.out; omega)).mono ?_
    rintro z w4 (⟨hbad, _⟩ | ⟨_, yv, u4, rfl, hw4, ho4, hap4, c4, m4⟩)
    · exact absurd (HCP.out bs A (Nat.le_refl _) (by omega)) hbad
    rw [show ((A : Int)).toNat = A from Int.toNat_natCast A, show ((D : Int)).toNat = D from Int.toNat_natCast D] at ho4 hw4
    obtain ⟨ya, yc, hyv⟩ := form1 ho4
    subst hyv
    obtain ⟨ys, hys⟩ : ∃ ys, copyL D bs A = ys := ⟨_, rfl⟩
    rw [hys] at ho4 hw4
    have HYS : Hid (copyL D bs A = ys) := hys
    have HU4 : Hid (Win w4 w1.heap.size b u4 2000 (bs ++ ys)) := hw4
    have HY4 : Hid (w4.ownsRow w3.heap.size 5 1 (.slice ya A yc) A (ins .u8 (nums ys))) := ho4
    have HX4 : Hid (w4.ownsRow w2.heap.size 5 1 (.slice xa (A + M) xc) (A + M) (ins .u8 (nums xs))) := ownsRow_keep HX3.out c4 (fun g e f => by have h1 := HULT.out g f; have h2 := (HX3.out.lt g e).1; omega)
    have HC4 : Hid (Chg (fun _ => False) w0 w4) := HC3.out.trans c4 (fun z f => .inr (by have h1 := (S.lt HU3.out z f).1; have := HS1.out; omega))
    have HM4 : Hid (∀ z, Foot b u4 z → z < w2.heap.size ∨ w3.heap.size ≤ z) := fun z f => (m4.foot b z f).imp (HULT.out z) id
    have HAP4 : Hid (∀ g, (Value.slice ya A yc).ownBlock = some g → ¬ Foot b u4 g) := hap4
    have HS4 : Hid (w3.heap.size ≤ w4.heap.size) := c4.size
    have hyl : ys.length = A := by rw [← hys, copyL_len]
    have HXLT : Hid (∀ g, (Value.slice xa (A + M) xc).ownBlock = some g → g < w3.heap.size) := fun g e => (HX3.out.lt g e).2
    clear hw4 ho4 hap4 c4 m4 hys HU3 HX3 HC3 HULT
    go_wp2_with fail
    refine (S.copy w1.heap.size b u4 2000 (bs ++ ys) (D : Int) (M : Int) w4 HU4.out (by have := HS1.out; have := HS3.out; have := HS4.out; omega) ⟨by omega, by omega⟩ ⟨by omega, by omega⟩ (by rw [List.length_append, hyl]; have := HBL.out; omega)).mono ?_
    rintro z w5 (⟨hbad, _⟩ | ⟨_, zv, u5, rfl, hw5, ho5, hap5, c5, m5⟩)
    · exact absurd (HCP.out (bs ++ ys) M (by rw [List.length_append]; omega) (by omega)) hbad
    rw [show ((M : Int)).toNat = M from Int.toNat_natCast M, show ((D : Int)).toNat = D from Int.toNat_natCast D] at ho5 hw5
    obtain ⟨za, zc, hzv⟩ := form1 ho5
    subst hzv
    obtain ⟨zs, hzs⟩ : ∃ zs, copyL D (bs ++ ys) M = zs := ⟨_, rfl⟩
    rw [hzs] at ho5
    have hzl : zs.length = M := by rw [← hzs, copyL_len]
    have HALL : Hid (xs = ys ++ zs) := by show _ = _; rw [← HXS.out, copyL_add, HYS.out, hzs]
    have ho4' := ownsRow_keep HY4.out c5 (fun g e f => HAP4.out g e f)
    have ho3' := ownsRow_keep HX4.out c5 (fun g e f => by
      have h2 := HX4.out.lt g e
      rcases HM4.out g f with h | h
      · omega
      · have h3 := (HX4.out.lt g e); have h4 := HXLT.out g e; omega)
    have hX5 : Row8 w5 xa (A + M) xc (nums xs) := row8_own ho3'
    have hY5 : Row8 w5 ya A yc (nums ys) := row8_own ho4'
    have hZ5 : Row8 w5 za M zc (nums zs) := row8_own ho5
    have HX5 : Hid (Row8 w5 xa (A + M) xc (nums xs)) := hX5
    have HC5 : Hid (Chg (fun _ => False) w0 w5) := HC4.out.trans c5 (fun z f => .inr (by have h1 := (S.lt HU4.out z f).1; have := HS1.out; omega))
    have cx := Bk.conv8_here hX5
    have cy := Bk.conv8_here hY5
    have cz := Bk.conv8_here hZ5
    have hcat : strOfNums (nums xs) = strOfNums (nums ys) ++ strOfNums (nums zs) := by rw [HALL.out, nums_append, str_app]
    rw [hcat] at cx
    clear hw5 ho5 hap5 c5 m5 ho4' ho3' hzs HU4 HX4 HY4 HC4 HM4 HAP4 hX5 hY5 hZ5 hcat
    have hns : ¬ 9223372036854775807 < (strOfNums (nums ys)).size + (strOfNums (nums zs)).size := by
      rw [str_size, str_size, nums_len, nums_len, hyl, hzl]
      omega
    generalize strOfNums (nums ys) = sy at *
    generalize strOfNums (nums zs) = sz at *
    go_wp2_with fail
    clear cx cy cz hns
    go_loopw [18] (fun iv wr => ∃ (i : Nat), i ≤ A + M ∧ iv = .int .i64 (i : Int) ∧ Hid (wr = w5)) (fun iv _ => A + M - (intOf iv).toNat)
    case atStart => exact ⟨0, Nat.zero_le _, rfl, rfl⟩
    case round =>
      obtain ⟨i, hi, rfl, HW⟩ := hrel
      by_cases hlt : i < A + M
      · have hdk : decide ((i : Int) < ((A + M : Nat) : Int)) = true := by simp; omega
        have hxl : xs.length = A + M := by rw [← HXS.out, copyL_len]
        obtain ⟨y, hy⟩ : ∃ y, xs[i]? = some y := ⟨_, List.getElem?_eq_getElem (by rw [hxl]; exact hlt)⟩
        obtain ⟨xx, rfl, hcx⟩ := row8_cell (by have h9 := HX5.out; rw [← HW.out] at h9; exact h9) hy
        by_cases hid : i < D
        · have hdd : decide ((i : Int) < (D : Int)) = true := by simp; omega
          have hby : bs[L - D + i]? = some y := by
            rw [← hy, ← HXS.out, copyL_first HD.out.1 (by rw [HBL.out]; exact HD.out.2) hlt hid, HBL.out]
          obtain ⟨ax, rfl, hcb⟩ := row8_cell (by have h9 := Bk.row8_chg HR0.out HC5.out; rw [← HW.out] at h9; exact h9) hby
          obtain ⟨K, hK⟩ : ∃ K, K = L - D + i := ⟨_, rfl⟩
          have hki : (L : Int) - (D : Int) + (i : Int) = (K : Int) := by have := HD.out; omega
          have hki2 : (L : Int) - (D : Int) = ((L - D : Nat) : Int) := by have := HD.out; omega
          have hkl : K < L := by have := (List.getElem?_eq_some_iff.1 hby).1; have := HBL.out; omega
          have hLb : (L : Int) ≤ 2000 := by omega
          rw [← hK] at hcb
          clear hy hby hK hxl hki2
          go_wp2_with fail
          go_roundw
          case rel => exact ⟨i + 1, by omega, by go_num, HW.out⟩
          case measure => simp [intOf]; omega
        · have hdd : decide ((i : Int) < (D : Int)) = false := by simp; omega
          have hby : xs[i - D]? = some y := by
            rw [← hy, ← HXS.out, copyL_then HD.out.1 (by rw [HBL.out]; exact HD.out.2) hlt (by omega)]
          obtain ⟨ax, hax, hcb⟩ := row8_cell (by have h9 := HX5.out; rw [← HW.out] at h9; exact h9) hby
          cases hax
          obtain ⟨K, hK⟩ : ∃ K, K = i - D := ⟨_, rfl⟩
          have hki : (i : Int) - (D : Int) = (K : Int) := by omega
          have hkl : K < A + M := by omega
          rw [← hK] at hcb
          clear hy hby hK hxl
          go_wp2_with fail
          go_roundw
          case rel => exact ⟨i + 1, by omega, by go_num, HW.out⟩
          case measure => simp [intOf]; omega
      · have hiM : A + M = i := by omega
        have hdk : decide ((i : Int) < ((A + M : Nat) : Int)) = false := by simp; omega
        have HCE : Hid (Chg (fun _ => False) w0 wr) := by have h9 := HC5.out; rw [← HW.out] at h9; exact h9
        go_wp2
        go_ret
        exact ⟨rfl, HCE.out⟩
  · skip
    have hq0 : ¬ q < 0 := h0
    have hd6 : decide (q < 0) = false := by simp; omega
    obtain ⟨D, hDq⟩ : ∃ D : Nat, q + 1 = (D : Int) := ⟨(q + 1).toNat, by omega⟩
    have HD : Hid (1 ≤ D ∧ D ≤ L) := by show _ ∧ _; omega
    have hD2 : (D : Int) ≤ 2000 := by have := HD.out; omega
    have HCP : Hid (∀ (b2 : List Nat) (m : Nat), bs.length ≤ b2.length → m ≤ 273 → Cpy 2000 b2 (D : Int) (m : Int)) := fun b2 m h1 h2 => ⟨⟨by have := HD.out; omega, by unfold fullN; have := HD.out; have := HBL.out; omega⟩, by omega, by omega⟩
    clear hq1 hq0
    go_wp2_with fail
    refine (S.copy w0.heap.size a v 2000 bs (D : Int) ((A : Int) + (M : Int)) w2 HW2.out HC2.out.size ⟨by omega, by omega⟩ ⟨by omega, by omega⟩ (by have := HBL.out; omega)).mono ?_
    rintro z w3 (⟨hbad, _⟩ | ⟨_, xv, v3, rfl, hw3, ho3, hap3, c3, m3⟩)
    · exact absurd (HCP.out bs (A + M) (Nat.le_refl _) (by omega)) (by have h9 := hbad; rw [show (A : Int) + (M : Int) = ((A + M : Nat) : Int) by omega] at h9; exact h9)
    rw [show ((A : Int) + (M : Int)).toNat = A + M by omega, show ((D : Int)).toNat = D from Int.toNat_natCast D] at ho3 hw3
    obtain ⟨xa, xc, hxv⟩ := form1 ho3
    subst hxv
    obtain ⟨xs, hxs⟩ : ∃ xs, copyL D bs (A + M) = xs := ⟨_, rfl⟩
    rw [hxs] at ho3
    have HXS : Hid (copyL D bs (A + M) = xs) := hxs
    have HX3 : Hid (w3.ownsRow w2.heap.size 5 1 (.slice xa (A + M) xc) (A + M) (ins .u8 (nums xs))) := ho3
    have HU3 : Hid (Win w3 w1.heap.size b u 2000 bs) := S.keep HU2.out c3 (fun z f g => by have h1 := HLT.out z g; have h2 := (S.lt HU2.out z f).1; omega)
    have HC3 : Hid (Chg (fun _ => False) w0 w3) := HC2.out.trans c3 (fun z f => .inr (S.lt HW2.out z f).1)
    have HULT : Hid (∀ z, Foot b u z → z < w2.heap.size) := fun z f => (S.lt HU2.out z f).2
    have HS3 : Hid (w2.heap.size ≤ w3.heap.size) := c3.size
    clear hw3 ho3 hap3 c3 m3 hxs HW2 HU2 HC2 HLT
    go_wp2_with fail
    refine (S.copy w1.heap.size b u 2000 bs (D : Int) (A : Int) w3 HU3.out (Nat.le_trans HS1.out.2 HS3.out) ⟨by omega, by omega⟩ ⟨by omega, by omega⟩ (by have := HBL.out; omega)).mono ?_
    rintro z w4 (⟨hbad, _⟩ | ⟨_, yv, u4, rfl, hw4, ho4, hap4, c4, m4⟩)
    · exact absurd (HCP.out bs A (Nat.le_refl _) (by omega)) hbad
    rw [show ((A : Int)).toNat = A from Int.toNat_natCast A, show ((D : Int)).toNat = D from Int.toNat_natCast D] at ho4 hw4
    obtain ⟨ya, yc, hyv⟩ := form1 ho4
    subst hyv
    obtain ⟨ys, hys⟩ : ∃ ys, copyL D bs A = ys := ⟨_, rfl⟩
    rw [hys] at ho4 hw4
    have HYS : Hid (copyL D bs A = ys) := hys
    have HU4 : Hid (Win w4 w1.heap.size b u4 2000 (bs ++ ys)) := hw4
    have HY4 : Hid (w4.ownsRow w3.heap.size 5 1 (.slice ya A yc) A (ins .u8 (nums ys))) := ho4
    have HX4 : Hid (w4.ownsRow w2.heap.size 5 1 (.slice xa (A + M) xc) (A + M) (ins .u8 (nums xs))) := ownsRow_keep HX3.out c4 (fun g e f => by have h1 := HULT.out g f; have h2 := (HX3.out.lt g e).1; omega)
    have HC4 : Hid (Chg (fun _ => False) w0 w4) := HC3.out.trans c4 (fun z f => .inr (by have h1 := (S.lt HU3.out z f).1; have := HS1.out; omega))
    have HM4 : Hid (∀ z, Foot b u4 z → z < w2.heap.size ∨ w3.heap.size ≤ z) := fun z f => (m4.foot b z f).imp (HULT.out z) id
    have HAP4 : Hid (∀ g, (Value.slice ya A yc).ownBlock = some g → ¬ Foot b u4 g) := hap4
    have HS4 : Hid (w3.heap.size ≤ w4.heap.size) := c4.size
    have hyl : ys.length = A := by rw [← hys, copyL_len]
    have HXLT : Hid (∀ g, (Value.slice xa (A + M) xc).ownBlock = some g → g < w3.heap.size) := fun g e => (HX3.out.lt g e).2
    clear hw4 ho4 hap4 c4 m4 hys HU3 HX3 HC3 HULT
    go_wp2_with fail
    refine (S.copy w1.heap.size b u4 2000 (bs ++ ys) (D : Int) (M : Int) w4 HU4.out (by have := HS1.out; have := HS3.out; have := HS4.out; omega) ⟨by omega, by omega⟩ ⟨by omega, by omega⟩ (by rw [List.length_append, hyl]; have := HBL.out; omega)).mono ?_
    rintro z w5 (⟨hbad, _⟩ | ⟨_, zv, u5, rfl, hw5, ho5, hap5, c5, m5⟩)
    · exact absurd (HCP.out (bs ++ ys) M (by rw [List.length_append]; omega) (by omega)) hbad
    rw [show ((M : Int)).toNat = M from Int.toNat_natCast M, show ((D : Int)).toNat = D from Int.toNat_natCast D] at ho5 hw5
    obtain ⟨za, zc, hzv⟩ := form1 ho5
    subst hzv
    obtain ⟨zs, hzs⟩ : ∃ zs, copyL D (bs ++ ys) M = zs := ⟨_, rfl⟩
    rw [hzs] at ho5
    have hzl : zs.length = M := by rw [← hzs, copyL_len]
    have HALL : Hid (xs = ys ++ zs) := by show _ = _; rw [← HXS.out, copyL_add, HYS.out, hzs]
    have ho4' := ownsRow_keep HY4.out c5 (fun g e f => HAP4.out g e f)
    have ho3' := ownsRow_keep HX4.out c5 (fun g e f => by
      have h2 := HX4.out.lt g e
      rcases HM4.out g f with h | h
      · omega
      · have h3 := (HX4.out.lt g e); have h4 := HXLT.out g e; omega)
    have hX5 : Row8 w5 xa (A + M) xc (nums xs) := row8_own ho3'
    have hY5 : Row8 w5 ya A yc (nums ys) := row8_own ho4'
    have hZ5 : Row8 w5 za M zc (nums zs) := row8_own ho5
    have HX5 : Hid (Row8 w5 xa (A + M) xc (nums xs)) := hX5
    have HC5 : Hid (Chg (fun _ => False) w0 w5) := HC4.out.trans c5 (fun z f => .inr (by have h1 := (S.lt HU4.out z f).1; have := HS1.out; omega))
    have cx := Bk.conv8_here hX5
    have cy := Bk.conv8_here hY5
    have cz := Bk.conv8_here hZ5
    have hcat : strOfNums (nums xs) = strOfNums (nums ys) ++ strOfNums (nums zs) := by rw [HALL.out, nums_append, str_app]
    rw [hcat] at cx
    clear hw5 ho5 hap5 c5 m5 ho4' ho3' hzs HU4 HX4 HY4 HC4 HM4 HAP4 hX5 hY5 hZ5 hcat
    have hns : ¬ 9223372036854775807 < (strOfNums (nums ys)).size + (strOfNums (nums zs)).size := by
      rw [str_size, str_size, nums_len, nums_len, hyl, hzl]
      omega
    generalize strOfNums (nums ys) = sy at *
    generalize strOfNums (nums zs) = sz at *
    go_wp2_with fail
    clear cx cy cz hns
    go_loopw [18] (fun iv wr => ∃ (i : Nat), i ≤ A + M ∧ iv = .int .i64 (i : Int) ∧ Hid (wr = w5)) (fun iv _ => A + M - (intOf iv).toNat)
    case atStart => exact ⟨0, Nat.zero_le _, rfl, rfl⟩
    case round =>
      obtain ⟨i, hi, rfl, HW⟩ := hrel
      by_cases hlt : i < A + M
      · have hdk : decide ((i : Int) < ((A + M : Nat) : Int)) = true := by simp; omega
        have hxl : xs.length = A + M := by rw [← HXS.out, copyL_len]
        obtain ⟨y, hy⟩ : ∃ y, xs[i]? = some y := ⟨_, List.getElem?_eq_getElem (by rw [hxl]; exact hlt)⟩
        obtain ⟨xx, rfl, hcx⟩ := row8_cell (by have h9 := HX5.out; rw [← HW.out] at h9; exact h9) hy
        by_cases hid : i < D
        · have hdd : decide ((i : Int) < (D : Int)) = true := by simp; omega
          have hby : bs[L - D + i]? = some y := by
            rw [← hy, ← HXS.out, copyL_first HD.out.1 (by rw [HBL.out]; exact HD.out.2) hlt hid, HBL.out]
          obtain ⟨ax, rfl, hcb⟩ := row8_cell (by have h9 := Bk.row8_chg HR0.out HC5.out; rw [← HW.out] at h9; exact h9) hby
          obtain ⟨K, hK⟩ : ∃ K, K = L - D + i := ⟨_, rfl⟩
          have hki : (L : Int) - (D : Int) + (i : Int) = (K : Int) := by have := HD.out; omega
          have hki2 : (L : Int) - (D : Int) = ((L - D : Nat) : Int) := by have := HD.out; omega
          have hkl : K < L := by have := (List.getElem?_eq_some_iff.1 hby).1; have := HBL.out; omega
          have hLb : (L : Int) ≤ 2000 := by omega
          rw [← hK] at hcb
          clear hy hby hK hxl hki2
          go_wp2_with fail
          go_roundw
          case rel => exact ⟨i + 1, by omega, by go_num, HW.out⟩
          case measure => simp [intOf]; omega
        · have hdd : decide ((i : Int) < (D : Int)) = false := by simp; omega
          have hby : xs[i - D]? = some y := by
            rw [← hy, ← HXS.out, copyL_then HD.out.1 (by rw [HBL.out]; exact HD.out.2) hlt (by omega)]
          obtain ⟨ax, hax, hcb⟩ := row8_cell (by have h9 := HX5.out; rw [← HW.out] at h9; exact h9) hby
          cases hax
          obtain ⟨K, hK⟩ : ∃ K, K = i - D := ⟨_, rfl⟩
          have hki : (i : Int) - (D : Int) = (K : Int) := by omega
          have hkl : K < A + M := by omega
          rw [← hK] at hcb
          clear hy hby hK hxl
          go_wp2_with fail
          go_roundw
          case rel => exact ⟨i + 1, by omega, by go_num, HW.out⟩
          case measure => simp [intOf]; omega
      · have hiM : A + M = i := by omega
        have hdk : decide ((i : Int) < ((A + M : Nat) : Int)) = false := by simp; omega
        have HCE : Hid (Chg (fun _ => False) w0 wr) := by have h9 := HC5.out; rw [← HW.out] at h9; exact h9
        go_wp2
        go_ret
        exact ⟨rfl, HCE.out⟩
end Go.Proofs.Ythgibmhbgfjkcaa
