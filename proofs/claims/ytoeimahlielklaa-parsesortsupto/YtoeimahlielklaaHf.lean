/- The program's heap in memory: sinking; of no statement by itself. -/
import Derived.Test.YtoeimahlielklaaHe
namespace Go.Proofs.Ytoeimahlielklaa
open Go.RowKit
open Hp16
set_option linter.unusedVariables false
set_option linter.unusedSimpArgs false
/-- Of the two below the number i that of the lesser one. -/
def lb (l : List Pr) (i : Nat) : Nat := if 2 * i + 2 < l.length ∧ ltb (nth l (2 * i + 2)) (nth l (2 * i + 1)) = true then 2 * i + 2 else 2 * i + 1
theorem lb_up (l : List Pr) (i : Nat) : 0 < lb l i ∧ (lb l i - 1) / 2 = i := by unfold lb; split <;> omega
theorem lb_min {l : List Pr} {i : Nat} (k : Nat) (h0 : 0 < k) (hk : k < l.length) (e : (k - 1) / 2 = i) : lb l i < l.length ∧ le (nth l (lb l i)) (nth l k) := by
  have : k = 2 * i + 1 ∨ k = 2 * i + 2 := by omega
  unfold lb
  split
  · next h =>
    refine ⟨h.1, ?_⟩
    rcases this with rfl | rfl
    · exact ltb_le h.2
    · exact le_refl _
  · next h =>
    refine ⟨by omega, ?_⟩
    rcases this with rfl | rfl
    · exact le_refl _
    · refine ltb_not ?_
      cases hh : ltb (nth l (2 * i + 2)) (nth l (2 * i + 1)) with
      | false => rfl
      | true => exact absurd ⟨hk, hh⟩ h
set_option maxHeartbeats 8000000 in
set_option maxRecDepth 100000 in
theorem below_any (B a i g n c : Nat) (l : List Pr) (w : World) (h : Hl w B a chF (.slice (some ⟨g, 0, none⟩) n c) l) (hl : l.length = n) (hi : i ≤ 8796093022208) (hn : n ≤ 8796093022208) : Calls Try.prog 16 #[.pointer (some ⟨a, 0, none⟩), .int .i64 (i : Int)] w fun e w' => e = .returned (.int .i64 ((lb l i : Nat) : Int)) ∧ Chg (fun _ => False) w w' := by
  have hii : (i : Int) ≤ 8796093022208 := by omega
  obtain ⟨x, hx⟩ : ∃ x, 2 * i + 1 = x := ⟨_, rfl⟩
  obtain ⟨y, hy⟩ : ∃ y, 2 * i + 2 = y := ⟨_, rfl⟩
  have e1 : 2 * (i : Int) + 1 = (x : Int) := by omega
  have e2 : 2 * (i : Int) + 2 = (y : Int) := by omega
  have hlb : lb l i = if y < n ∧ ltb (nth l y) (nth l x) = true then y else x := by unfold lb; rw [hx, hy, hl]
  have HLB : Hid _ := hlb
  have HXY : Hid (x + 1 = y) := by show _ = _; omega
  have k0 := cell0 h.blk
  have k1 := cell1 h.blk
  have HH : Hid (Hl w B a chF (.slice (some ⟨g, 0, none⟩) n c) l ∧ l.length = n) := ⟨h, hl⟩
  have hxi : (x : Int) ≤ 17592186044418 := by omega
  have hyi : (y : Int) ≤ 17592186044418 := by omega
  clear hx hy hlb h hl
  go_enter Try.func16, Try.ntmps16
  go_upto_region 2 with fail
  clear e1 e2
  by_cases hyn : y < n
  · have hxn : x < n := by have := HXY.out; omega
    have hd0 : decide (y < n) = true := decide_eq_true hyn
    have hO : w.ownsRow B 47 2 (.slice (some ⟨g, 0, none⟩) n c) n (prcs l) := by have := HH.out.1.own; rw [HH.out.2] at this; exact this
    obtain ⟨py, hpy⟩ : ∃ z, nth l y = z := ⟨_, rfl⟩
    obtain ⟨px, hpx⟩ : ∃ z, nth l x = z := ⟨_, rfl⟩
    obtain ⟨c10, c11⟩ := (put2 hO HH.out.2 y hyn px).1
    obtain ⟨c20, c21⟩ := (put2 hO HH.out.2 x hxn py).1
    rw [hpy] at c10 c11
    rw [hpx] at c20 c21
    obtain ⟨b, hb⟩ : ∃ b, ltb py px = b := ⟨_, rfl⟩
    have HB : Hid (ltb py px = b) := hb
    have HR : Hid (lb l i = if b = true then y else x) := by
      show _ = _
      rw [HLB.out, hpy, hpx, hb]
      simp [hyn]
    clear hO hpy hpx hb
    refine wp_region_last (mk := fun u => #[_, _, _, _, _, _, _, _, _, _, _, _, _, u 13, u 14, u 15, u 16, u 17, u 18, u 19, u 20, u 21, u 22, u 23, u 24, u 25, u 26, u 27, u 28, u 29, u 30, u 31, u 32, u 33, u 34, u 35, u 36, u 37, u 38, u 39, _, _, _]) (F := fun slot vv ww => (look [(13, .val (.int .i64 (y : Int))), (14, .val (.pointer (some ⟨a, 0, none⟩))), (15, .val (.pointer (some ⟨a, 0, none⟩))), (16, .val (.pointer (some ⟨a, 1, none⟩))), (17, .val (.slice (some ⟨g, 0, none⟩) n c)), (18, .val (.int .i64 (n : Int))), (19, .val (.bool true)), (20, .val (.bool true)), (21, .val (.pointer (some ⟨a, 0, none⟩))), (22, .val (.pointer (some ⟨a, 0, none⟩))), (23, .val (.pointer (some ⟨a, 0, none⟩))), (24, .val (chF)), (25, .val (.pointer (some ⟨a, 0, none⟩))), (26, .val (.pointer (some ⟨a, 0, none⟩))), (27, .val (.pointer (some ⟨a, 1, none⟩))), (28, .val (.slice (some ⟨g, 0, none⟩) n c)), (29, .val (.int .i64 (y : Int))), (30, .val (.pointer (some ⟨g, y * 2, none⟩))), (31, .val (.agg #[.int .i64 py.1, .int .i64 py.2])), (32, .val (.pointer (some ⟨a, 0, none⟩))), (33, .val (.pointer (some ⟨a, 0, none⟩))), (34, .val (.pointer (some ⟨a, 1, none⟩))), (35, .val (.slice (some ⟨g, 0, none⟩) n c)), (36, .val (.int .i64 (x : Int))), (37, .val (.pointer (some ⟨g, x * 2, none⟩))), (38, .val (.agg #[.int .i64 px.1, .int .i64 px.2])), (39, .val (.bool b))] slot).holds vv ww) (fun _ => undef) rfl (by kernel_rfl) 27 _ rfl rfl (by kernel_rfl) ?_ (fun _ v w w' hc h => Fact.stays _ v w w' hc h) ?_ ?_
    · repeat (refine ⟨⟨_, rfl, fun _ _ => rfl⟩, ?_⟩)
      exact trivial
    · refine ⟨?_, ?_, ?_, ?_, ?_, ?_, ?_, ?_, ?_, ?_, ?_, ?_, ?_, ?_, ?_, ?_, ?_, ?_, ?_, ?_, ?_, ?_, ?_, ?_, ?_, ?_, ?_, trivial⟩
      · intro u w_ hc hd K hK -- 13
        clear hd
        go_simp
        exact hK.out (.int .i64 (y : Int)) w_ (Chg.refl _ _) rfl
      · intro u w_ hc hd K hK -- 14
        clear hd
        go_simp
        exact hK.out (.pointer (some ⟨a, 0, none⟩)) w_ (Chg.refl _ _) rfl
      · intro u w_ hc hd K hK -- 15
        have h14 : (Fact.val (.pointer (some ⟨a, 0, none⟩))).holds (u 14) w_ := hd.get 1 (by kernel_rfl)
        simp only [Fact.holds] at h14
        clear hd
        simp only [h14] at hK
        go_simp
        exact hK.out (.pointer (some ⟨a, 0, none⟩)) w_ (Chg.refl _ _) rfl
      · intro u w_ hc hd K hK -- 16
        have h15 : (Fact.val (.pointer (some ⟨a, 0, none⟩))).holds (u 15) w_ := hd.get 2 (by kernel_rfl)
        simp only [Fact.holds] at h15
        clear hd
        simp only [h15] at hK
        go_simp
        exact hK.out (.pointer (some ⟨a, 1, none⟩)) w_ (Chg.refl _ _) rfl
      · intro u w_ hc hd K hK -- 17
        have h16 : (Fact.val (.pointer (some ⟨a, 1, none⟩))).holds (u 16) w_ := hd.get 3 (by kernel_rfl)
        simp only [Fact.holds] at h16
        clear hd
        simp only [h16] at hK
        have x0 := cell_chg k1 hc
        go_simp
        exact hK.out _ w_ (Chg.refl _ _) rfl
      · intro u w_ hc hd K hK -- 18
        have h17 : (Fact.val (.slice (some ⟨g, 0, none⟩) n c)).holds (u 17) w_ := hd.get 4 (by kernel_rfl)
        simp only [Fact.holds] at h17
        clear hd
        simp only [h17] at hK
        go_simp
        exact hK.out (.int .i64 (n : Int)) w_ (Chg.refl _ _) rfl
      · intro u w_ hc hd K hK -- 19
        have h13 : (Fact.val (.int .i64 (y : Int))).holds (u 13) w_ := hd.get 0 (by kernel_rfl)
        simp only [Fact.holds] at h13
        have h18 : (Fact.val (.int .i64 (n : Int))).holds (u 18) w_ := hd.get 5 (by kernel_rfl)
        simp only [Fact.holds] at h18
        clear hd
        simp only [h13, h18] at hK
        go_simp
        exact hK.out _ w_ (Chg.refl _ _) rfl
      · intro u w_ hc hd K hK -- 20
        have h19 : (Fact.val (.bool true)).holds (u 19) w_ := hd.get 6 (by kernel_rfl)
        simp only [Fact.holds] at h19
        clear hd
        simp only [h19] at hK
        go_simp
        exact hK.out (.bool true) w_ (Chg.refl _ _) rfl
      · intro u w_ hc hd K hK -- 21
        have h20 : (Fact.val (.bool true)).holds (u 20) w_ := hd.get 7 (by kernel_rfl)
        simp only [Fact.holds] at h20
        clear hd
        simp only [h20] at hK
        go_simp
        exact hK.out (.pointer (some ⟨a, 0, none⟩)) w_ (Chg.refl _ _) rfl
      · intro u w_ hc hd K hK -- 22
        have h21 : (Fact.val (.pointer (some ⟨a, 0, none⟩))).holds (u 21) w_ := hd.get 8 (by kernel_rfl)
        simp only [Fact.holds] at h21
        have h20 : (Fact.val (.bool true)).holds (u 20) w_ := hd.get 7 (by kernel_rfl)
        simp only [Fact.holds] at h20
        clear hd
        simp only [h20, h21] at hK
        go_simp
        exact hK.out (.pointer (some ⟨a, 0, none⟩)) w_ (Chg.refl _ _) rfl
      · intro u w_ hc hd K hK -- 23
        have h22 : (Fact.val (.pointer (some ⟨a, 0, none⟩))).holds (u 22) w_ := hd.get 9 (by kernel_rfl)
        simp only [Fact.holds] at h22
        have h20 : (Fact.val (.bool true)).holds (u 20) w_ := hd.get 7 (by kernel_rfl)
        simp only [Fact.holds] at h20
        clear hd
        simp only [h20, h22] at hK
        go_simp
        exact hK.out (.pointer (some ⟨a, 0, none⟩)) w_ (Chg.refl _ _) rfl
      · intro u w_ hc hd K hK -- 24
        have h23 : (Fact.val (.pointer (some ⟨a, 0, none⟩))).holds (u 23) w_ := hd.get 10 (by kernel_rfl)
        simp only [Fact.holds] at h23
        have h20 : (Fact.val (.bool true)).holds (u 20) w_ := hd.get 7 (by kernel_rfl)
        simp only [Fact.holds] at h20
        clear hd
        simp only [h20, h23] at hK
        have x0 := cell_chg k0 hc
        go_simp
        exact hK.out _ w_ (Chg.refl _ _) rfl
      · intro u w_ hc hd K hK -- 25
        have h20 : (Fact.val (.bool true)).holds (u 20) w_ := hd.get 7 (by kernel_rfl)
        simp only [Fact.holds] at h20
        clear hd
        simp only [h20] at hK
        go_simp
        exact hK.out (.pointer (some ⟨a, 0, none⟩)) w_ (Chg.refl _ _) rfl
      · intro u w_ hc hd K hK -- 26
        have h25 : (Fact.val (.pointer (some ⟨a, 0, none⟩))).holds (u 25) w_ := hd.get 12 (by kernel_rfl)
        simp only [Fact.holds] at h25
        have h20 : (Fact.val (.bool true)).holds (u 20) w_ := hd.get 7 (by kernel_rfl)
        simp only [Fact.holds] at h20
        clear hd
        simp only [h20, h25] at hK
        go_simp
        exact hK.out (.pointer (some ⟨a, 0, none⟩)) w_ (Chg.refl _ _) rfl
      · intro u w_ hc hd K hK -- 27
        have h26 : (Fact.val (.pointer (some ⟨a, 0, none⟩))).holds (u 26) w_ := hd.get 13 (by kernel_rfl)
        simp only [Fact.holds] at h26
        have h20 : (Fact.val (.bool true)).holds (u 20) w_ := hd.get 7 (by kernel_rfl)
        simp only [Fact.holds] at h20
        clear hd
        simp only [h20, h26] at hK
        go_simp
        exact hK.out (.pointer (some ⟨a, 1, none⟩)) w_ (Chg.refl _ _) rfl
      · intro u w_ hc hd K hK -- 28
        have h27 : (Fact.val (.pointer (some ⟨a, 1, none⟩))).holds (u 27) w_ := hd.get 14 (by kernel_rfl)
        simp only [Fact.holds] at h27
        have h20 : (Fact.val (.bool true)).holds (u 20) w_ := hd.get 7 (by kernel_rfl)
        simp only [Fact.holds] at h20
        clear hd
        simp only [h20, h27] at hK
        have x0 := cell_chg k1 hc
        go_simp
        exact hK.out _ w_ (Chg.refl _ _) rfl
      · intro u w_ hc hd K hK -- 29
        have h20 : (Fact.val (.bool true)).holds (u 20) w_ := hd.get 7 (by kernel_rfl)
        simp only [Fact.holds] at h20
        clear hd
        simp only [h20] at hK
        go_simp
        exact hK.out (.int .i64 (y : Int)) w_ (Chg.refl _ _) rfl
      · intro u w_ hc hd K hK -- 30
        have h28 : (Fact.val (.slice (some ⟨g, 0, none⟩) n c)).holds (u 28) w_ := hd.get 15 (by kernel_rfl)
        simp only [Fact.holds] at h28
        have h29 : (Fact.val (.int .i64 (y : Int))).holds (u 29) w_ := hd.get 16 (by kernel_rfl)
        simp only [Fact.holds] at h29
        have h20 : (Fact.val (.bool true)).holds (u 20) w_ := hd.get 7 (by kernel_rfl)
        simp only [Fact.holds] at h20
        clear hd
        simp only [h20, h28, h29] at hK
        go_simp
        exact hK.out (.pointer (some ⟨g, y * 2, none⟩)) w_ (Chg.refl _ _) rfl
      · intro u w_ hc hd K hK -- 31
        have h30 : (Fact.val (.pointer (some ⟨g, y * 2, none⟩))).holds (u 30) w_ := hd.get 17 (by kernel_rfl)
        simp only [Fact.holds] at h30
        have h20 : (Fact.val (.bool true)).holds (u 20) w_ := hd.get 7 (by kernel_rfl)
        simp only [Fact.holds] at h20
        clear hd
        simp only [h20, h30] at hK
        have x0 := cell_chg c10 hc
        have x1 := cell_chg c11 hc
        go_simp
        exact hK.out _ w_ (Chg.refl _ _) rfl
      · intro u w_ hc hd K hK -- 32
        have h20 : (Fact.val (.bool true)).holds (u 20) w_ := hd.get 7 (by kernel_rfl)
        simp only [Fact.holds] at h20
        clear hd
        simp only [h20] at hK
        go_simp
        exact hK.out (.pointer (some ⟨a, 0, none⟩)) w_ (Chg.refl _ _) rfl
      · intro u w_ hc hd K hK -- 33
        have h32 : (Fact.val (.pointer (some ⟨a, 0, none⟩))).holds (u 32) w_ := hd.get 19 (by kernel_rfl)
        simp only [Fact.holds] at h32
        have h20 : (Fact.val (.bool true)).holds (u 20) w_ := hd.get 7 (by kernel_rfl)
        simp only [Fact.holds] at h20
        clear hd
        simp only [h20, h32] at hK
        go_simp
        exact hK.out (.pointer (some ⟨a, 0, none⟩)) w_ (Chg.refl _ _) rfl
      · intro u w_ hc hd K hK -- 34
        have h33 : (Fact.val (.pointer (some ⟨a, 0, none⟩))).holds (u 33) w_ := hd.get 20 (by kernel_rfl)
        simp only [Fact.holds] at h33
        have h20 : (Fact.val (.bool true)).holds (u 20) w_ := hd.get 7 (by kernel_rfl)
        simp only [Fact.holds] at h20
        clear hd
        simp only [h20, h33] at hK
        go_simp
        exact hK.out (.pointer (some ⟨a, 1, none⟩)) w_ (Chg.refl _ _) rfl
      · intro u w_ hc hd K hK -- 35
        have h34 : (Fact.val (.pointer (some ⟨a, 1, none⟩))).holds (u 34) w_ := hd.get 21 (by kernel_rfl)
        simp only [Fact.holds] at h34
        have h20 : (Fact.val (.bool true)).holds (u 20) w_ := hd.get 7 (by kernel_rfl)
        simp only [Fact.holds] at h20
        clear hd
        simp only [h20, h34] at hK
        have x0 := cell_chg k1 hc
        go_simp
        exact hK.out _ w_ (Chg.refl _ _) rfl
      · intro u w_ hc hd K hK -- 36
        have h20 : (Fact.val (.bool true)).holds (u 20) w_ := hd.get 7 (by kernel_rfl)
        simp only [Fact.holds] at h20
        clear hd
        simp only [h20] at hK
        go_simp
        exact hK.out (.int .i64 (x : Int)) w_ (Chg.refl _ _) rfl
      · intro u w_ hc hd K hK -- 37
        have h35 : (Fact.val (.slice (some ⟨g, 0, none⟩) n c)).holds (u 35) w_ := hd.get 22 (by kernel_rfl)
        simp only [Fact.holds] at h35
        have h36 : (Fact.val (.int .i64 (x : Int))).holds (u 36) w_ := hd.get 23 (by kernel_rfl)
        simp only [Fact.holds] at h36
        have h20 : (Fact.val (.bool true)).holds (u 20) w_ := hd.get 7 (by kernel_rfl)
        simp only [Fact.holds] at h20
        clear hd
        simp only [h20, h35, h36] at hK
        go_simp
        exact hK.out (.pointer (some ⟨g, x * 2, none⟩)) w_ (Chg.refl _ _) rfl
      · intro u w_ hc hd K hK -- 38
        have h37 : (Fact.val (.pointer (some ⟨g, x * 2, none⟩))).holds (u 37) w_ := hd.get 24 (by kernel_rfl)
        simp only [Fact.holds] at h37
        have h20 : (Fact.val (.bool true)).holds (u 20) w_ := hd.get 7 (by kernel_rfl)
        simp only [Fact.holds] at h20
        clear hd
        simp only [h20, h37] at hK
        have x0 := cell_chg c20 hc
        have x1 := cell_chg c21 hc
        go_simp
        exact hK.out _ w_ (Chg.refl _ _) rfl
      · intro u w_ hc hd K hK -- 39
        have h24 : (Fact.val (chF)).holds (u 24) w_ := hd.get 11 (by kernel_rfl)
        simp only [Fact.holds] at h24
        have h31 : (Fact.val (.agg #[.int .i64 py.1, .int .i64 py.2])).holds (u 31) w_ := hd.get 18 (by kernel_rfl)
        simp only [Fact.holds] at h31
        have h38 : (Fact.val (.agg #[.int .i64 px.1, .int .i64 px.2])).holds (u 38) w_ := hd.get 25 (by kernel_rfl)
        simp only [Fact.holds] at h38
        have h20 : (Fact.val (.bool true)).holds (u 20) w_ := hd.get 7 (by kernel_rfl)
        simp only [Fact.holds] at h20
        clear hd
        simp only [h20, h24, h31, h38] at hK
        unfold chF at *
        go_simp
        refine Calls.mono (cheaper_any py px w_) ?_
        rintro z w2 ⟨rfl, c2⟩
        rw [HB.out]
        exact hK.out _ w2 c2 rfl
    · intro u w7 hc hA K hK
      have h20 : (Fact.val (.bool true)).holds (u 20) w7 := hA.at 20 (by kernel_rfl)
      have h39 : (Fact.val (.bool b)).holds (u 39) w7 := hA.at 39 (by kernel_rfl)
      simp only [Fact.holds] at h20 h39
      have HC7 : Hid (Chg (fun _ => False) w w7) := hc
      clear hA hc k0 k1 c10 c11 c20 c21
      simp only [h20, h39] at hK ⊢
      go_simp
      refine hK.out _ _ ?_
      clear hK h20 h39
      cases b with
      | false =>
        go_wp2
        go_ret
        exact ⟨by rw [HR.out]; rfl, HC7.out⟩
      | true =>
        go_wp2
        go_ret
        exact ⟨by rw [HR.out]; rfl, HC7.out⟩
  · have hd0 : decide (y < n) = false := decide_eq_false hyn
    have HR : Hid (lb l i = x) := by
      show _ = _
      rw [HLB.out]
      simp [hyn]
    refine wp_region_last (mk := fun u => #[_, _, _, _, _, _, _, _, _, _, _, _, _, u 13, u 14, u 15, u 16, u 17, u 18, u 19, u 20, u 21, u 22, u 23, u 24, u 25, u 26, u 27, u 28, u 29, u 30, u 31, u 32, u 33, u 34, u 35, u 36, u 37, u 38, u 39, _, _, _]) (F := fun slot vv ww => (look [(13, .val (.int .i64 (y : Int))), (14, .val (.pointer (some ⟨a, 0, none⟩))), (15, .val (.pointer (some ⟨a, 0, none⟩))), (16, .val (.pointer (some ⟨a, 1, none⟩))), (17, .val (.slice (some ⟨g, 0, none⟩) n c)), (18, .val (.int .i64 (n : Int))), (19, .val (.bool false)), (20, .val (.bool false)), (21, .val undef), (22, .val undef), (23, .val undef), (24, .val undef), (25, .val undef), (26, .val undef), (27, .val undef), (28, .val undef), (29, .val undef), (30, .val undef), (31, .val undef), (32, .val undef), (33, .val undef), (34, .val undef), (35, .val undef), (36, .val undef), (37, .val undef), (38, .val undef), (39, .val undef)] slot).holds vv ww) (fun _ => undef) rfl (by kernel_rfl) 27 _ rfl rfl (by kernel_rfl) ?_ (fun _ v w w' hc h => Fact.stays _ v w w' hc h) ?_ ?_
    · repeat (refine ⟨⟨_, rfl, fun _ _ => rfl⟩, ?_⟩)
      exact trivial
    · refine ⟨?_, ?_, ?_, ?_, ?_, ?_, ?_, ?_, ?_, ?_, ?_, ?_, ?_, ?_, ?_, ?_, ?_, ?_, ?_, ?_, ?_, ?_, ?_, ?_, ?_, ?_, ?_, trivial⟩
      · intro u w_ hc hd K hK -- 13
        clear hd
        go_simp
        exact hK.out (.int .i64 (y : Int)) w_ (Chg.refl _ _) rfl
      · intro u w_ hc hd K hK -- 14
        clear hd
        go_simp
        exact hK.out (.pointer (some ⟨a, 0, none⟩)) w_ (Chg.refl _ _) rfl
      · intro u w_ hc hd K hK -- 15
        have h14 : (Fact.val (.pointer (some ⟨a, 0, none⟩))).holds (u 14) w_ := hd.get 1 (by kernel_rfl)
        simp only [Fact.holds] at h14
        clear hd
        simp only [h14] at hK
        go_simp
        exact hK.out (.pointer (some ⟨a, 0, none⟩)) w_ (Chg.refl _ _) rfl
      · intro u w_ hc hd K hK -- 16
        have h15 : (Fact.val (.pointer (some ⟨a, 0, none⟩))).holds (u 15) w_ := hd.get 2 (by kernel_rfl)
        simp only [Fact.holds] at h15
        clear hd
        simp only [h15] at hK
        go_simp
        exact hK.out (.pointer (some ⟨a, 1, none⟩)) w_ (Chg.refl _ _) rfl
      · intro u w_ hc hd K hK -- 17
        have h16 : (Fact.val (.pointer (some ⟨a, 1, none⟩))).holds (u 16) w_ := hd.get 3 (by kernel_rfl)
        simp only [Fact.holds] at h16
        clear hd
        simp only [h16] at hK
        have x0 := cell_chg k1 hc
        go_simp
        exact hK.out _ w_ (Chg.refl _ _) rfl
      · intro u w_ hc hd K hK -- 18
        have h17 : (Fact.val (.slice (some ⟨g, 0, none⟩) n c)).holds (u 17) w_ := hd.get 4 (by kernel_rfl)
        simp only [Fact.holds] at h17
        clear hd
        simp only [h17] at hK
        go_simp
        exact hK.out (.int .i64 (n : Int)) w_ (Chg.refl _ _) rfl
      · intro u w_ hc hd K hK -- 19
        have h13 : (Fact.val (.int .i64 (y : Int))).holds (u 13) w_ := hd.get 0 (by kernel_rfl)
        simp only [Fact.holds] at h13
        have h18 : (Fact.val (.int .i64 (n : Int))).holds (u 18) w_ := hd.get 5 (by kernel_rfl)
        simp only [Fact.holds] at h18
        clear hd
        simp only [h13, h18] at hK
        go_simp
        exact hK.out _ w_ (Chg.refl _ _) rfl
      · intro u w_ hc hd K hK -- 20
        have h19 : (Fact.val (.bool false)).holds (u 19) w_ := hd.get 6 (by kernel_rfl)
        simp only [Fact.holds] at h19
        clear hd
        simp only [h19] at hK
        go_simp
        exact hK.out (.bool false) w_ (Chg.refl _ _) rfl
      · intro u w_ hc hd K hK -- 21
        have h20 : (Fact.val (.bool false)).holds (u 20) w_ := hd.get 7 (by kernel_rfl)
        simp only [Fact.holds] at h20
        clear hd
        simp only [h20] at hK
        go_simp
        exact hK.out undef w_ (Chg.refl _ _) rfl
      · intro u w_ hc hd K hK -- 22
        have h21 : (Fact.val undef).holds (u 21) w_ := hd.get 8 (by kernel_rfl)
        simp only [Fact.holds] at h21
        have h20 : (Fact.val (.bool false)).holds (u 20) w_ := hd.get 7 (by kernel_rfl)
        simp only [Fact.holds] at h20
        clear hd
        simp only [h20, h21] at hK
        go_simp
        exact hK.out undef w_ (Chg.refl _ _) rfl
      · intro u w_ hc hd K hK -- 23
        have h22 : (Fact.val undef).holds (u 22) w_ := hd.get 9 (by kernel_rfl)
        simp only [Fact.holds] at h22
        have h20 : (Fact.val (.bool false)).holds (u 20) w_ := hd.get 7 (by kernel_rfl)
        simp only [Fact.holds] at h20
        clear hd
        simp only [h20, h22] at hK
        go_simp
        exact hK.out undef w_ (Chg.refl _ _) rfl
      · intro u w_ hc hd K hK -- 24
        have h23 : (Fact.val undef).holds (u 23) w_ := hd.get 10 (by kernel_rfl)
        simp only [Fact.holds] at h23
        have h20 : (Fact.val (.bool false)).holds (u 20) w_ := hd.get 7 (by kernel_rfl)
        simp only [Fact.holds] at h20
        clear hd
        simp only [h20, h23] at hK
        go_simp
        exact hK.out undef w_ (Chg.refl _ _) rfl
      · intro u w_ hc hd K hK -- 25
        have h20 : (Fact.val (.bool false)).holds (u 20) w_ := hd.get 7 (by kernel_rfl)
        simp only [Fact.holds] at h20
        clear hd
        simp only [h20] at hK
        go_simp
        exact hK.out undef w_ (Chg.refl _ _) rfl
      · intro u w_ hc hd K hK -- 26
        have h25 : (Fact.val undef).holds (u 25) w_ := hd.get 12 (by kernel_rfl)
        simp only [Fact.holds] at h25
        have h20 : (Fact.val (.bool false)).holds (u 20) w_ := hd.get 7 (by kernel_rfl)
        simp only [Fact.holds] at h20
        clear hd
        simp only [h20, h25] at hK
        go_simp
        exact hK.out undef w_ (Chg.refl _ _) rfl
      · intro u w_ hc hd K hK -- 27
        have h26 : (Fact.val undef).holds (u 26) w_ := hd.get 13 (by kernel_rfl)
        simp only [Fact.holds] at h26
        have h20 : (Fact.val (.bool false)).holds (u 20) w_ := hd.get 7 (by kernel_rfl)
        simp only [Fact.holds] at h20
        clear hd
        simp only [h20, h26] at hK
        go_simp
        exact hK.out undef w_ (Chg.refl _ _) rfl
      · intro u w_ hc hd K hK -- 28
        have h27 : (Fact.val undef).holds (u 27) w_ := hd.get 14 (by kernel_rfl)
        simp only [Fact.holds] at h27
        have h20 : (Fact.val (.bool false)).holds (u 20) w_ := hd.get 7 (by kernel_rfl)
        simp only [Fact.holds] at h20
        clear hd
        simp only [h20, h27] at hK
        go_simp
        exact hK.out undef w_ (Chg.refl _ _) rfl
      · intro u w_ hc hd K hK -- 29
        have h20 : (Fact.val (.bool false)).holds (u 20) w_ := hd.get 7 (by kernel_rfl)
        simp only [Fact.holds] at h20
        clear hd
        simp only [h20] at hK
        go_simp
        exact hK.out undef w_ (Chg.refl _ _) rfl
      · intro u w_ hc hd K hK -- 30
        have h28 : (Fact.val undef).holds (u 28) w_ := hd.get 15 (by kernel_rfl)
        simp only [Fact.holds] at h28
        have h29 : (Fact.val undef).holds (u 29) w_ := hd.get 16 (by kernel_rfl)
        simp only [Fact.holds] at h29
        have h20 : (Fact.val (.bool false)).holds (u 20) w_ := hd.get 7 (by kernel_rfl)
        simp only [Fact.holds] at h20
        clear hd
        simp only [h20, h28, h29] at hK
        go_simp
        exact hK.out undef w_ (Chg.refl _ _) rfl
      · intro u w_ hc hd K hK -- 31
        have h30 : (Fact.val undef).holds (u 30) w_ := hd.get 17 (by kernel_rfl)
        simp only [Fact.holds] at h30
        have h20 : (Fact.val (.bool false)).holds (u 20) w_ := hd.get 7 (by kernel_rfl)
        simp only [Fact.holds] at h20
        clear hd
        simp only [h20, h30] at hK
        go_simp
        exact hK.out undef w_ (Chg.refl _ _) rfl
      · intro u w_ hc hd K hK -- 32
        have h20 : (Fact.val (.bool false)).holds (u 20) w_ := hd.get 7 (by kernel_rfl)
        simp only [Fact.holds] at h20
        clear hd
        simp only [h20] at hK
        go_simp
        exact hK.out undef w_ (Chg.refl _ _) rfl
      · intro u w_ hc hd K hK -- 33
        have h32 : (Fact.val undef).holds (u 32) w_ := hd.get 19 (by kernel_rfl)
        simp only [Fact.holds] at h32
        have h20 : (Fact.val (.bool false)).holds (u 20) w_ := hd.get 7 (by kernel_rfl)
        simp only [Fact.holds] at h20
        clear hd
        simp only [h20, h32] at hK
        go_simp
        exact hK.out undef w_ (Chg.refl _ _) rfl
      · intro u w_ hc hd K hK -- 34
        have h33 : (Fact.val undef).holds (u 33) w_ := hd.get 20 (by kernel_rfl)
        simp only [Fact.holds] at h33
        have h20 : (Fact.val (.bool false)).holds (u 20) w_ := hd.get 7 (by kernel_rfl)
        simp only [Fact.holds] at h20
        clear hd
        simp only [h20, h33] at hK
        go_simp
        exact hK.out undef w_ (Chg.refl _ _) rfl
      · intro u w_ hc hd K hK -- 35
        have h34 : (Fact.val undef).holds (u 34) w_ := hd.get 21 (by kernel_rfl)
        simp only [Fact.holds] at h34
        have h20 : (Fact.val (.bool false)).holds (u 20) w_ := hd.get 7 (by kernel_rfl)
        simp only [Fact.holds] at h20
        clear hd
        simp only [h20, h34] at hK
        go_simp
        exact hK.out undef w_ (Chg.refl _ _) rfl
      · intro u w_ hc hd K hK -- 36
        have h20 : (Fact.val (.bool false)).holds (u 20) w_ := hd.get 7 (by kernel_rfl)
        simp only [Fact.holds] at h20
        clear hd
        simp only [h20] at hK
        go_simp
        exact hK.out undef w_ (Chg.refl _ _) rfl
      · intro u w_ hc hd K hK -- 37
        have h35 : (Fact.val undef).holds (u 35) w_ := hd.get 22 (by kernel_rfl)
        simp only [Fact.holds] at h35
        have h36 : (Fact.val undef).holds (u 36) w_ := hd.get 23 (by kernel_rfl)
        simp only [Fact.holds] at h36
        have h20 : (Fact.val (.bool false)).holds (u 20) w_ := hd.get 7 (by kernel_rfl)
        simp only [Fact.holds] at h20
        clear hd
        simp only [h20, h35, h36] at hK
        go_simp
        exact hK.out undef w_ (Chg.refl _ _) rfl
      · intro u w_ hc hd K hK -- 38
        have h37 : (Fact.val undef).holds (u 37) w_ := hd.get 24 (by kernel_rfl)
        simp only [Fact.holds] at h37
        have h20 : (Fact.val (.bool false)).holds (u 20) w_ := hd.get 7 (by kernel_rfl)
        simp only [Fact.holds] at h20
        clear hd
        simp only [h20, h37] at hK
        go_simp
        exact hK.out undef w_ (Chg.refl _ _) rfl
      · intro u w_ hc hd K hK -- 39
        have h24 : (Fact.val undef).holds (u 24) w_ := hd.get 11 (by kernel_rfl)
        simp only [Fact.holds] at h24
        have h31 : (Fact.val undef).holds (u 31) w_ := hd.get 18 (by kernel_rfl)
        simp only [Fact.holds] at h31
        have h38 : (Fact.val undef).holds (u 38) w_ := hd.get 25 (by kernel_rfl)
        simp only [Fact.holds] at h38
        have h20 : (Fact.val (.bool false)).holds (u 20) w_ := hd.get 7 (by kernel_rfl)
        simp only [Fact.holds] at h20
        clear hd
        simp only [h20, h24, h31, h38] at hK
        go_simp
        exact hK.out undef w_ (Chg.refl _ _) rfl
    · intro u w7 hc hA K hK
      have h20 : (Fact.val (.bool false)).holds (u 20) w7 := hA.at 20 (by kernel_rfl)
      simp only [Fact.holds] at h20
      have HC7 : Hid (Chg (fun _ => False) w w7) := hc
      clear hA hc k0 k1
      simp only [h20] at hK ⊢
      go_simp
      refine hK.out _ _ ?_
      clear hK h20
      go_wp2
      go_ret
      exact ⟨by rw [HR.out]; rfl, HC7.out⟩
set_option maxHeartbeats 8000000 in
set_option maxRecDepth 100000 in
theorem sink_any (B a g n c : Nat) (l : List Pr) (w : World) (h : Hl w B a chF (.slice (some ⟨g, 0, none⟩) n c) l) (hl : l.length = n) (hn : n ≤ 8796093022208) (hdn : Dn l 0) : Calls Try.prog 15 #[.pointer (some ⟨a, 0, none⟩), .int .i64 0] w fun e w' => e = .returned (.tuple #[]) ∧ ∃ l', Hl w' B a chF (.slice (some ⟨g, 0, none⟩) n c) l' ∧ l'.Perm l ∧ Tre l' ∧ Chg (fun z => z = g) w w' := by
  have HL : Hid (l.length = n ∧ Dn l 0 ∧ Hl w B a chF (.slice (some ⟨g, 0, none⟩) n c) l) := ⟨hl, hdn, h⟩
  have HB0 : Hid _ := below_any B a 0 g n c l w h hl (by omega) hn
  clear hl hdn h
  go_enter Try.func15, Try.ntmps15
  go_wp2_with fail
  refine Calls.mono HB0.out ?_
  rintro z w1 ⟨rfl, cB⟩
  have HC1 : Hid (Chg (fun _ => False) w w1) := cB
  clear cB HB0
  go_wp2_with fail
  go_loopw [1, 4] (fun v1 v4 wr => ∃ (j : Nat) (l2 : List Pr), j ≤ n ∧ v1 = .int .i64 (j : Int) ∧ v4 = .int .i64 ((lb l2 j : Nat) : Int) ∧ Hid (l2.length = n ∧ Dn l2 j ∧ l2.Perm l ∧ Hl wr B a chF (.slice (some ⟨g, 0, none⟩) n c) l2 ∧ Chg (fun z => z = g) w wr)) (fun v1 _ _ => n - (intOf v1).toNat)
  case atStart => exact ⟨0, l, by omega, rfl, rfl, HL.out.1, HL.out.2.1, List.Perm.refl _, HL.out.2.2.new HC1.out, HC1.out.mono (fun _ f => f.elim)⟩
  case round =>
    obtain ⟨j, l2, hj, rfl, rfl, HI⟩ := hrel
    have hji : (j : Int) ≤ 8796093022208 := by omega
    have HLU := lb_up l2 j
    have HLM : Hid (∀ k, 0 < k → k < l2.length → (k - 1) / 2 = j → lb l2 j < l2.length ∧ le (nth l2 (lb l2 j)) (nth l2 k)) := fun k a1 a2 a3 => lb_min k a1 a2 a3
    obtain ⟨p, hp⟩ : ∃ p, lb l2 j = p := ⟨_, rfl⟩
    rw [hp] at HLM HLU ⊢
    have HLU : Hid (0 < p ∧ (p - 1) / 2 = j) := HLU
    have hpi : (p : Int) ≤ 17592186044418 := by have := HLU.out; omega
    clear hp
    have k0 := cell0 HI.out.2.2.2.1.blk
    have k1 := cell1 HI.out.2.2.2.1.blk
    have HJN : Hid (j ≤ n) := hj
    clear hj
    by_cases hpn : p < n
    rotate_left
    · have hd0 : decide (p < n) = false := decide_eq_false hpn
      have HE : Hid (∀ w7, Chg (fun _ => False) wr w7 → ∃ l', Hl w7 B a chF (.slice (some ⟨g, 0, none⟩) n c) l' ∧ l'.Perm l ∧ Tre l' ∧ Chg (fun z => z = g) w w7) := fun w7 h7 => ⟨l2, HI.out.2.2.2.1.new h7, HI.out.2.2.1, dn_end HI.out.2.1 (fun k a1 a2 a3 => by
        have := (HLM.out k a1 a2 a3).1
        rw [HI.out.1] at this
        exact absurd this hpn), HI.out.2.2.2.2.trans h7 (fun _ f => f.elim)⟩
      clear HI HLM HLU
      go_upto_region 1 with fail
      refine wp_region_last (mk := fun u => #[_, _, _, _, _, _, _, _, u 8, u 9, u 10, u 11, u 12, u 13, u 14, u 15, u 16, u 17, u 18, u 19, u 20, u 21, u 22, u 23, u 24, u 25, u 26, u 27, u 28, u 29, u 30, u 31, u 32, u 33, u 34, _, _, _, _, _, _, _, _, _, _, _, _, _, _, _, _, _, _, _, _, _, _, _, _, _, _, _, _, _, _, _]) (F := fun slot vv ww => (look [(8, .val (.int .i64 (p : Int))), (9, .val (.pointer (some ⟨a, 0, none⟩))), (10, .val (.pointer (some ⟨a, 0, none⟩))), (11, .val (.pointer (some ⟨a, 1, none⟩))), (12, .val (.slice (some ⟨g, 0, none⟩) n c)), (13, .val (.int .i64 (n : Int))), (14, .val (.bool false)), (15, .val (.bool false)), (16, .val undef), (17, .val undef), (18, .val undef), (19, .val undef), (20, .val undef), (21, .val undef), (22, .val undef), (23, .val undef), (24, .val undef), (25, .val undef), (26, .val undef), (27, .val undef), (28, .val undef), (29, .val undef), (30, .val undef), (31, .val undef), (32, .val undef), (33, .val undef), (34, .val undef)] slot).holds vv ww) (fun slot => match slot with | 8 => u8 | 9 => u9 | 10 => u10 | 11 => u11 | 12 => u12 | 13 => u13 | 14 => u14 | 15 => u15 | 16 => u16 | 17 => u17 | 18 => u18 | 19 => u19 | 20 => u20 | 21 => u21 | 22 => u22 | 23 => u23 | 24 => u24 | 25 => u25 | 26 => u26 | 27 => u27 | 28 => u28 | 29 => u29 | 30 => u30 | 31 => u31 | 32 => u32 | 33 => u33 | 34 => u34 | 35 => u35 | _ => undef) rfl (by kernel_rfl) 27 _ rfl rfl (by kernel_rfl) ?_ (fun _ v w w' hc h => Fact.stays _ v w w' hc h) ?_ ?_
      · repeat (refine ⟨⟨_, rfl, fun _ _ => rfl⟩, ?_⟩)
        exact trivial
      · refine ⟨?_, ?_, ?_, ?_, ?_, ?_, ?_, ?_, ?_, ?_, ?_, ?_, ?_, ?_, ?_, ?_, ?_, ?_, ?_, ?_, ?_, ?_, ?_, ?_, ?_, ?_, ?_, trivial⟩
        · intro u w_ hc hd K hK -- 8
          clear hd
          go_simp
          exact hK.out (.int .i64 (p : Int)) w_ (Chg.refl _ _) rfl
        · intro u w_ hc hd K hK -- 9
          clear hd
          go_simp
          exact hK.out (.pointer (some ⟨a, 0, none⟩)) w_ (Chg.refl _ _) rfl
        · intro u w_ hc hd K hK -- 10
          have h9 : (Fact.val (.pointer (some ⟨a, 0, none⟩))).holds (u 9) w_ := hd.get 1 (by kernel_rfl)
          simp only [Fact.holds] at h9
          clear hd
          simp only [h9] at hK
          go_simp
          exact hK.out (.pointer (some ⟨a, 0, none⟩)) w_ (Chg.refl _ _) rfl
        · intro u w_ hc hd K hK -- 11
          have h10 : (Fact.val (.pointer (some ⟨a, 0, none⟩))).holds (u 10) w_ := hd.get 2 (by kernel_rfl)
          simp only [Fact.holds] at h10
          clear hd
          simp only [h10] at hK
          go_simp
          exact hK.out (.pointer (some ⟨a, 1, none⟩)) w_ (Chg.refl _ _) rfl
        · intro u w_ hc hd K hK -- 12
          have h11 : (Fact.val (.pointer (some ⟨a, 1, none⟩))).holds (u 11) w_ := hd.get 3 (by kernel_rfl)
          simp only [Fact.holds] at h11
          clear hd
          simp only [h11] at hK
          have x0 := cell_chg k1 hc
          go_simp
          exact hK.out _ w_ (Chg.refl _ _) rfl
        · intro u w_ hc hd K hK -- 13
          have h12 : (Fact.val (.slice (some ⟨g, 0, none⟩) n c)).holds (u 12) w_ := hd.get 4 (by kernel_rfl)
          simp only [Fact.holds] at h12
          clear hd
          simp only [h12] at hK
          go_simp
          exact hK.out (.int .i64 (n : Int)) w_ (Chg.refl _ _) rfl
        · intro u w_ hc hd K hK -- 14
          have h8 : (Fact.val (.int .i64 (p : Int))).holds (u 8) w_ := hd.get 0 (by kernel_rfl)
          simp only [Fact.holds] at h8
          have h13 : (Fact.val (.int .i64 (n : Int))).holds (u 13) w_ := hd.get 5 (by kernel_rfl)
          simp only [Fact.holds] at h13
          clear hd
          simp only [h8, h13] at hK
          go_simp
          exact hK.out _ w_ (Chg.refl _ _) rfl
        · intro u w_ hc hd K hK -- 15
          have h14 : (Fact.val (.bool false)).holds (u 14) w_ := hd.get 6 (by kernel_rfl)
          simp only [Fact.holds] at h14
          clear hd
          simp only [h14] at hK
          go_simp
          exact hK.out (.bool false) w_ (Chg.refl _ _) rfl
        · intro u w_ hc hd K hK -- 16
          have h15 : (Fact.val (.bool false)).holds (u 15) w_ := hd.get 7 (by kernel_rfl)
          simp only [Fact.holds] at h15
          clear hd
          simp only [h15] at hK
          go_simp
          exact hK.out undef w_ (Chg.refl _ _) rfl
        · intro u w_ hc hd K hK -- 17
          have h16 : (Fact.val undef).holds (u 16) w_ := hd.get 8 (by kernel_rfl)
          simp only [Fact.holds] at h16
          have h15 : (Fact.val (.bool false)).holds (u 15) w_ := hd.get 7 (by kernel_rfl)
          simp only [Fact.holds] at h15
          clear hd
          simp only [h15, h16] at hK
          go_simp
          exact hK.out undef w_ (Chg.refl _ _) rfl
        · intro u w_ hc hd K hK -- 18
          have h17 : (Fact.val undef).holds (u 17) w_ := hd.get 9 (by kernel_rfl)
          simp only [Fact.holds] at h17
          have h15 : (Fact.val (.bool false)).holds (u 15) w_ := hd.get 7 (by kernel_rfl)
          simp only [Fact.holds] at h15
          clear hd
          simp only [h15, h17] at hK
          go_simp
          exact hK.out undef w_ (Chg.refl _ _) rfl
        · intro u w_ hc hd K hK -- 19
          have h18 : (Fact.val undef).holds (u 18) w_ := hd.get 10 (by kernel_rfl)
          simp only [Fact.holds] at h18
          have h15 : (Fact.val (.bool false)).holds (u 15) w_ := hd.get 7 (by kernel_rfl)
          simp only [Fact.holds] at h15
          clear hd
          simp only [h15, h18] at hK
          go_simp
          exact hK.out undef w_ (Chg.refl _ _) rfl
        · intro u w_ hc hd K hK -- 20
          have h15 : (Fact.val (.bool false)).holds (u 15) w_ := hd.get 7 (by kernel_rfl)
          simp only [Fact.holds] at h15
          clear hd
          simp only [h15] at hK
          go_simp
          exact hK.out undef w_ (Chg.refl _ _) rfl
        · intro u w_ hc hd K hK -- 21
          have h20 : (Fact.val undef).holds (u 20) w_ := hd.get 12 (by kernel_rfl)
          simp only [Fact.holds] at h20
          have h15 : (Fact.val (.bool false)).holds (u 15) w_ := hd.get 7 (by kernel_rfl)
          simp only [Fact.holds] at h15
          clear hd
          simp only [h15, h20] at hK
          go_simp
          exact hK.out undef w_ (Chg.refl _ _) rfl
        · intro u w_ hc hd K hK -- 22
          have h21 : (Fact.val undef).holds (u 21) w_ := hd.get 13 (by kernel_rfl)
          simp only [Fact.holds] at h21
          have h15 : (Fact.val (.bool false)).holds (u 15) w_ := hd.get 7 (by kernel_rfl)
          simp only [Fact.holds] at h15
          clear hd
          simp only [h15, h21] at hK
          go_simp
          exact hK.out undef w_ (Chg.refl _ _) rfl
        · intro u w_ hc hd K hK -- 23
          have h22 : (Fact.val undef).holds (u 22) w_ := hd.get 14 (by kernel_rfl)
          simp only [Fact.holds] at h22
          have h15 : (Fact.val (.bool false)).holds (u 15) w_ := hd.get 7 (by kernel_rfl)
          simp only [Fact.holds] at h15
          clear hd
          simp only [h15, h22] at hK
          go_simp
          exact hK.out undef w_ (Chg.refl _ _) rfl
        · intro u w_ hc hd K hK -- 24
          have h15 : (Fact.val (.bool false)).holds (u 15) w_ := hd.get 7 (by kernel_rfl)
          simp only [Fact.holds] at h15
          clear hd
          simp only [h15] at hK
          go_simp
          exact hK.out undef w_ (Chg.refl _ _) rfl
        · intro u w_ hc hd K hK -- 25
          have h23 : (Fact.val undef).holds (u 23) w_ := hd.get 15 (by kernel_rfl)
          simp only [Fact.holds] at h23
          have h24 : (Fact.val undef).holds (u 24) w_ := hd.get 16 (by kernel_rfl)
          simp only [Fact.holds] at h24
          have h15 : (Fact.val (.bool false)).holds (u 15) w_ := hd.get 7 (by kernel_rfl)
          simp only [Fact.holds] at h15
          clear hd
          simp only [h15, h23, h24] at hK
          go_simp
          exact hK.out undef w_ (Chg.refl _ _) rfl
        · intro u w_ hc hd K hK -- 26
          have h25 : (Fact.val undef).holds (u 25) w_ := hd.get 17 (by kernel_rfl)
          simp only [Fact.holds] at h25
          have h15 : (Fact.val (.bool false)).holds (u 15) w_ := hd.get 7 (by kernel_rfl)
          simp only [Fact.holds] at h15
          clear hd
          simp only [h15, h25] at hK
          go_simp
          exact hK.out undef w_ (Chg.refl _ _) rfl
        · intro u w_ hc hd K hK -- 27
          have h15 : (Fact.val (.bool false)).holds (u 15) w_ := hd.get 7 (by kernel_rfl)
          simp only [Fact.holds] at h15
          clear hd
          simp only [h15] at hK
          go_simp
          exact hK.out undef w_ (Chg.refl _ _) rfl
        · intro u w_ hc hd K hK -- 28
          have h27 : (Fact.val undef).holds (u 27) w_ := hd.get 19 (by kernel_rfl)
          simp only [Fact.holds] at h27
          have h15 : (Fact.val (.bool false)).holds (u 15) w_ := hd.get 7 (by kernel_rfl)
          simp only [Fact.holds] at h15
          clear hd
          simp only [h15, h27] at hK
          go_simp
          exact hK.out undef w_ (Chg.refl _ _) rfl
        · intro u w_ hc hd K hK -- 29
          have h28 : (Fact.val undef).holds (u 28) w_ := hd.get 20 (by kernel_rfl)
          simp only [Fact.holds] at h28
          have h15 : (Fact.val (.bool false)).holds (u 15) w_ := hd.get 7 (by kernel_rfl)
          simp only [Fact.holds] at h15
          clear hd
          simp only [h15, h28] at hK
          go_simp
          exact hK.out undef w_ (Chg.refl _ _) rfl
        · intro u w_ hc hd K hK -- 30
          have h29 : (Fact.val undef).holds (u 29) w_ := hd.get 21 (by kernel_rfl)
          simp only [Fact.holds] at h29
          have h15 : (Fact.val (.bool false)).holds (u 15) w_ := hd.get 7 (by kernel_rfl)
          simp only [Fact.holds] at h15
          clear hd
          simp only [h15, h29] at hK
          go_simp
          exact hK.out undef w_ (Chg.refl _ _) rfl
        · intro u w_ hc hd K hK -- 31
          have h15 : (Fact.val (.bool false)).holds (u 15) w_ := hd.get 7 (by kernel_rfl)
          simp only [Fact.holds] at h15
          clear hd
          simp only [h15] at hK
          go_simp
          exact hK.out undef w_ (Chg.refl _ _) rfl
        · intro u w_ hc hd K hK -- 32
          have h30 : (Fact.val undef).holds (u 30) w_ := hd.get 22 (by kernel_rfl)
          simp only [Fact.holds] at h30
          have h31 : (Fact.val undef).holds (u 31) w_ := hd.get 23 (by kernel_rfl)
          simp only [Fact.holds] at h31
          have h15 : (Fact.val (.bool false)).holds (u 15) w_ := hd.get 7 (by kernel_rfl)
          simp only [Fact.holds] at h15
          clear hd
          simp only [h15, h30, h31] at hK
          go_simp
          exact hK.out undef w_ (Chg.refl _ _) rfl
        · intro u w_ hc hd K hK -- 33
          have h32 : (Fact.val undef).holds (u 32) w_ := hd.get 24 (by kernel_rfl)
          simp only [Fact.holds] at h32
          have h15 : (Fact.val (.bool false)).holds (u 15) w_ := hd.get 7 (by kernel_rfl)
          simp only [Fact.holds] at h15
          clear hd
          simp only [h15, h32] at hK
          go_simp
          exact hK.out undef w_ (Chg.refl _ _) rfl
        · intro u w_ hc hd K hK -- 34
          have h19 : (Fact.val undef).holds (u 19) w_ := hd.get 11 (by kernel_rfl)
          simp only [Fact.holds] at h19
          have h26 : (Fact.val undef).holds (u 26) w_ := hd.get 18 (by kernel_rfl)
          simp only [Fact.holds] at h26
          have h33 : (Fact.val undef).holds (u 33) w_ := hd.get 25 (by kernel_rfl)
          simp only [Fact.holds] at h33
          have h15 : (Fact.val (.bool false)).holds (u 15) w_ := hd.get 7 (by kernel_rfl)
          simp only [Fact.holds] at h15
          clear hd
          simp only [h15, h19, h26, h33] at hK
          go_simp
          exact hK.out undef w_ (Chg.refl _ _) rfl
      · intro u w7 hc hA K hK
        have h15 : (Fact.val (.bool false)).holds (u 15) w7 := hA.at 15 (by kernel_rfl)
        simp only [Fact.holds] at h15
        clear hA
        simp only [h15] at hK ⊢
        go_simp
        refine hK.out _ _ ?_
        go_wp2
        go_end0
        exact ⟨rfl, HE.out w7 hc⟩
    · have hd0 : decide (p < n) = true := decide_eq_true hpn
      have hjn : j < n := by have := HLU.out; omega
      have HJL : Hid (j < p) := by have := HLU.out; show _ < _; omega
      have hlen := HI.out.1
      have hH := HI.out.2.2.2.1
      obtain ⟨pj, hpj'⟩ : ∃ x, nth l2 j = x := ⟨_, rfl⟩
      obtain ⟨pp, hpp⟩ : ∃ x, nth l2 p = x := ⟨_, rfl⟩
      obtain ⟨c10, c11⟩ := (put2 (by have := hH.own; rw [hlen] at this; exact this) hlen p hpn pj).1
      obtain ⟨c20, c21⟩ := (put2 (by have := hH.own; rw [hlen] at this; exact this) hlen j hjn pp).1
      rw [hpj'] at c20 c21
      rw [hpp] at c10 c11
      have HPJ : Hid (nth l2 j = pj ∧ nth l2 p = pp) := ⟨hpj', hpp⟩
      obtain ⟨b, hb⟩ : ∃ b, ltb pp pj = b := ⟨_, rfl⟩
      have HB : Hid (ltb pp pj = b) := hb
      clear hlen hH hpj' hpp hb
      go_upto_region 1 with fail
      refine wp_region_last (mk := fun u => #[_, _, _, _, _, _, _, _, u 8, u 9, u 10, u 11, u 12, u 13, u 14, u 15, u 16, u 17, u 18, u 19, u 20, u 21, u 22, u 23, u 24, u 25, u 26, u 27, u 28, u 29, u 30, u 31, u 32, u 33, u 34, _, _, _, _, _, _, _, _, _, _, _, _, _, _, _, _, _, _, _, _, _, _, _, _, _, _, _, _, _, _, _]) (F := fun slot vv ww => (look [(8, .val (.int .i64 (p : Int))), (9, .val (.pointer (some ⟨a, 0, none⟩))), (10, .val (.pointer (some ⟨a, 0, none⟩))), (11, .val (.pointer (some ⟨a, 1, none⟩))), (12, .val (.slice (some ⟨g, 0, none⟩) n c)), (13, .val (.int .i64 (n : Int))), (14, .val (.bool true)), (15, .val (.bool true)), (16, .val (.pointer (some ⟨a, 0, none⟩))), (17, .val (.pointer (some ⟨a, 0, none⟩))), (18, .val (.pointer (some ⟨a, 0, none⟩))), (19, .val (chF)), (20, .val (.pointer (some ⟨a, 0, none⟩))), (21, .val (.pointer (some ⟨a, 0, none⟩))), (22, .val (.pointer (some ⟨a, 1, none⟩))), (23, .val (.slice (some ⟨g, 0, none⟩) n c)), (24, .val (.int .i64 (p : Int))), (25, .val (.pointer (some ⟨g, p * 2, none⟩))), (26, .val (.agg #[.int .i64 pp.1, .int .i64 pp.2])), (27, .val (.pointer (some ⟨a, 0, none⟩))), (28, .val (.pointer (some ⟨a, 0, none⟩))), (29, .val (.pointer (some ⟨a, 1, none⟩))), (30, .val (.slice (some ⟨g, 0, none⟩) n c)), (31, .val (.int .i64 (j : Int))), (32, .val (.pointer (some ⟨g, j * 2, none⟩))), (33, .val (.agg #[.int .i64 pj.1, .int .i64 pj.2])), (34, .val (.bool b))] slot).holds vv ww) (fun slot => match slot with | 8 => u8 | 9 => u9 | 10 => u10 | 11 => u11 | 12 => u12 | 13 => u13 | 14 => u14 | 15 => u15 | 16 => u16 | 17 => u17 | 18 => u18 | 19 => u19 | 20 => u20 | 21 => u21 | 22 => u22 | 23 => u23 | 24 => u24 | 25 => u25 | 26 => u26 | 27 => u27 | 28 => u28 | 29 => u29 | 30 => u30 | 31 => u31 | 32 => u32 | 33 => u33 | 34 => u34 | 35 => u35 | _ => undef) rfl (by kernel_rfl) 27 _ rfl rfl (by kernel_rfl) ?_ (fun _ v w w' hc h => Fact.stays _ v w w' hc h) ?_ ?_
      · repeat (refine ⟨⟨_, rfl, fun _ _ => rfl⟩, ?_⟩)
        exact trivial
      · refine ⟨?_, ?_, ?_, ?_, ?_, ?_, ?_, ?_, ?_, ?_, ?_, ?_, ?_, ?_, ?_, ?_, ?_, ?_, ?_, ?_, ?_, ?_, ?_, ?_, ?_, ?_, ?_, trivial⟩
        · intro u w_ hc hd K hK -- 8
          clear hd
          go_simp
          exact hK.out (.int .i64 (p : Int)) w_ (Chg.refl _ _) rfl
        · intro u w_ hc hd K hK -- 9
          clear hd
          go_simp
          exact hK.out (.pointer (some ⟨a, 0, none⟩)) w_ (Chg.refl _ _) rfl
        · intro u w_ hc hd K hK -- 10
          have h9 : (Fact.val (.pointer (some ⟨a, 0, none⟩))).holds (u 9) w_ := hd.get 1 (by kernel_rfl)
          simp only [Fact.holds] at h9
          clear hd
          simp only [h9] at hK
          go_simp
          exact hK.out (.pointer (some ⟨a, 0, none⟩)) w_ (Chg.refl _ _) rfl
        · intro u w_ hc hd K hK -- 11
          have h10 : (Fact.val (.pointer (some ⟨a, 0, none⟩))).holds (u 10) w_ := hd.get 2 (by kernel_rfl)
          simp only [Fact.holds] at h10
          clear hd
          simp only [h10] at hK
          go_simp
          exact hK.out (.pointer (some ⟨a, 1, none⟩)) w_ (Chg.refl _ _) rfl
        · intro u w_ hc hd K hK -- 12
          have h11 : (Fact.val (.pointer (some ⟨a, 1, none⟩))).holds (u 11) w_ := hd.get 3 (by kernel_rfl)
          simp only [Fact.holds] at h11
          clear hd
          simp only [h11] at hK
          have x0 := cell_chg k1 hc
          go_simp
          exact hK.out _ w_ (Chg.refl _ _) rfl
        · intro u w_ hc hd K hK -- 13
          have h12 : (Fact.val (.slice (some ⟨g, 0, none⟩) n c)).holds (u 12) w_ := hd.get 4 (by kernel_rfl)
          simp only [Fact.holds] at h12
          clear hd
          simp only [h12] at hK
          go_simp
          exact hK.out (.int .i64 (n : Int)) w_ (Chg.refl _ _) rfl
        · intro u w_ hc hd K hK -- 14
          have h8 : (Fact.val (.int .i64 (p : Int))).holds (u 8) w_ := hd.get 0 (by kernel_rfl)
          simp only [Fact.holds] at h8
          have h13 : (Fact.val (.int .i64 (n : Int))).holds (u 13) w_ := hd.get 5 (by kernel_rfl)
          simp only [Fact.holds] at h13
          clear hd
          simp only [h8, h13] at hK
          go_simp
          exact hK.out _ w_ (Chg.refl _ _) rfl
        · intro u w_ hc hd K hK -- 15
          have h14 : (Fact.val (.bool true)).holds (u 14) w_ := hd.get 6 (by kernel_rfl)
          simp only [Fact.holds] at h14
          clear hd
          simp only [h14] at hK
          go_simp
          exact hK.out (.bool true) w_ (Chg.refl _ _) rfl
        · intro u w_ hc hd K hK -- 16
          have h15 : (Fact.val (.bool true)).holds (u 15) w_ := hd.get 7 (by kernel_rfl)
          simp only [Fact.holds] at h15
          clear hd
          simp only [h15] at hK
          go_simp
          exact hK.out (.pointer (some ⟨a, 0, none⟩)) w_ (Chg.refl _ _) rfl
        · intro u w_ hc hd K hK -- 17
          have h16 : (Fact.val (.pointer (some ⟨a, 0, none⟩))).holds (u 16) w_ := hd.get 8 (by kernel_rfl)
          simp only [Fact.holds] at h16
          have h15 : (Fact.val (.bool true)).holds (u 15) w_ := hd.get 7 (by kernel_rfl)
          simp only [Fact.holds] at h15
          clear hd
          simp only [h15, h16] at hK
          go_simp
          exact hK.out (.pointer (some ⟨a, 0, none⟩)) w_ (Chg.refl _ _) rfl
        · intro u w_ hc hd K hK -- 18
          have h17 : (Fact.val (.pointer (some ⟨a, 0, none⟩))).holds (u 17) w_ := hd.get 9 (by kernel_rfl)
          simp only [Fact.holds] at h17
          have h15 : (Fact.val (.bool true)).holds (u 15) w_ := hd.get 7 (by kernel_rfl)
          simp only [Fact.holds] at h15
          clear hd
          simp only [h15, h17] at hK
          go_simp
          exact hK.out (.pointer (some ⟨a, 0, none⟩)) w_ (Chg.refl _ _) rfl
        · intro u w_ hc hd K hK -- 19
          have h18 : (Fact.val (.pointer (some ⟨a, 0, none⟩))).holds (u 18) w_ := hd.get 10 (by kernel_rfl)
          simp only [Fact.holds] at h18
          have h15 : (Fact.val (.bool true)).holds (u 15) w_ := hd.get 7 (by kernel_rfl)
          simp only [Fact.holds] at h15
          clear hd
          simp only [h15, h18] at hK
          have x0 := cell_chg k0 hc
          go_simp
          exact hK.out _ w_ (Chg.refl _ _) rfl
        · intro u w_ hc hd K hK -- 20
          have h15 : (Fact.val (.bool true)).holds (u 15) w_ := hd.get 7 (by kernel_rfl)
          simp only [Fact.holds] at h15
          clear hd
          simp only [h15] at hK
          go_simp
          exact hK.out (.pointer (some ⟨a, 0, none⟩)) w_ (Chg.refl _ _) rfl
        · intro u w_ hc hd K hK -- 21
          have h20 : (Fact.val (.pointer (some ⟨a, 0, none⟩))).holds (u 20) w_ := hd.get 12 (by kernel_rfl)
          simp only [Fact.holds] at h20
          have h15 : (Fact.val (.bool true)).holds (u 15) w_ := hd.get 7 (by kernel_rfl)
          simp only [Fact.holds] at h15
          clear hd
          simp only [h15, h20] at hK
          go_simp
          exact hK.out (.pointer (some ⟨a, 0, none⟩)) w_ (Chg.refl _ _) rfl
        · intro u w_ hc hd K hK -- 22
          have h21 : (Fact.val (.pointer (some ⟨a, 0, none⟩))).holds (u 21) w_ := hd.get 13 (by kernel_rfl)
          simp only [Fact.holds] at h21
          have h15 : (Fact.val (.bool true)).holds (u 15) w_ := hd.get 7 (by kernel_rfl)
          simp only [Fact.holds] at h15
          clear hd
          simp only [h15, h21] at hK
          go_simp
          exact hK.out (.pointer (some ⟨a, 1, none⟩)) w_ (Chg.refl _ _) rfl
        · intro u w_ hc hd K hK -- 23
          have h22 : (Fact.val (.pointer (some ⟨a, 1, none⟩))).holds (u 22) w_ := hd.get 14 (by kernel_rfl)
          simp only [Fact.holds] at h22
          have h15 : (Fact.val (.bool true)).holds (u 15) w_ := hd.get 7 (by kernel_rfl)
          simp only [Fact.holds] at h15
          clear hd
          simp only [h15, h22] at hK
          have x0 := cell_chg k1 hc
          go_simp
          exact hK.out _ w_ (Chg.refl _ _) rfl
        · intro u w_ hc hd K hK -- 24
          have h15 : (Fact.val (.bool true)).holds (u 15) w_ := hd.get 7 (by kernel_rfl)
          simp only [Fact.holds] at h15
          clear hd
          simp only [h15] at hK
          go_simp
          exact hK.out (.int .i64 (p : Int)) w_ (Chg.refl _ _) rfl
        · intro u w_ hc hd K hK -- 25
          have h23 : (Fact.val (.slice (some ⟨g, 0, none⟩) n c)).holds (u 23) w_ := hd.get 15 (by kernel_rfl)
          simp only [Fact.holds] at h23
          have h24 : (Fact.val (.int .i64 (p : Int))).holds (u 24) w_ := hd.get 16 (by kernel_rfl)
          simp only [Fact.holds] at h24
          have h15 : (Fact.val (.bool true)).holds (u 15) w_ := hd.get 7 (by kernel_rfl)
          simp only [Fact.holds] at h15
          clear hd
          simp only [h15, h23, h24] at hK
          go_simp
          exact hK.out (.pointer (some ⟨g, p * 2, none⟩)) w_ (Chg.refl _ _) rfl
        · intro u w_ hc hd K hK -- 26
          have h25 : (Fact.val (.pointer (some ⟨g, p * 2, none⟩))).holds (u 25) w_ := hd.get 17 (by kernel_rfl)
          simp only [Fact.holds] at h25
          have h15 : (Fact.val (.bool true)).holds (u 15) w_ := hd.get 7 (by kernel_rfl)
          simp only [Fact.holds] at h15
          clear hd
          simp only [h15, h25] at hK
          have x0 := cell_chg c10 hc
          have x1 := cell_chg c11 hc
          go_simp
          exact hK.out _ w_ (Chg.refl _ _) rfl
        · intro u w_ hc hd K hK -- 27
          have h15 : (Fact.val (.bool true)).holds (u 15) w_ := hd.get 7 (by kernel_rfl)
          simp only [Fact.holds] at h15
          clear hd
          simp only [h15] at hK
          go_simp
          exact hK.out (.pointer (some ⟨a, 0, none⟩)) w_ (Chg.refl _ _) rfl
        · intro u w_ hc hd K hK -- 28
          have h27 : (Fact.val (.pointer (some ⟨a, 0, none⟩))).holds (u 27) w_ := hd.get 19 (by kernel_rfl)
          simp only [Fact.holds] at h27
          have h15 : (Fact.val (.bool true)).holds (u 15) w_ := hd.get 7 (by kernel_rfl)
          simp only [Fact.holds] at h15
          clear hd
          simp only [h15, h27] at hK
          go_simp
          exact hK.out (.pointer (some ⟨a, 0, none⟩)) w_ (Chg.refl _ _) rfl
        · intro u w_ hc hd K hK -- 29
          have h28 : (Fact.val (.pointer (some ⟨a, 0, none⟩))).holds (u 28) w_ := hd.get 20 (by kernel_rfl)
          simp only [Fact.holds] at h28
          have h15 : (Fact.val (.bool true)).holds (u 15) w_ := hd.get 7 (by kernel_rfl)
          simp only [Fact.holds] at h15
          clear hd
          simp only [h15, h28] at hK
          go_simp
          exact hK.out (.pointer (some ⟨a, 1, none⟩)) w_ (Chg.refl _ _) rfl
        · intro u w_ hc hd K hK -- 30
          have h29 : (Fact.val (.pointer (some ⟨a, 1, none⟩))).holds (u 29) w_ := hd.get 21 (by kernel_rfl)
          simp only [Fact.holds] at h29
          have h15 : (Fact.val (.bool true)).holds (u 15) w_ := hd.get 7 (by kernel_rfl)
          simp only [Fact.holds] at h15
          clear hd
          simp only [h15, h29] at hK
          have x0 := cell_chg k1 hc
          go_simp
          exact hK.out _ w_ (Chg.refl _ _) rfl
        · intro u w_ hc hd K hK -- 31
          have h15 : (Fact.val (.bool true)).holds (u 15) w_ := hd.get 7 (by kernel_rfl)
          simp only [Fact.holds] at h15
          clear hd
          simp only [h15] at hK
          go_simp
          exact hK.out (.int .i64 (j : Int)) w_ (Chg.refl _ _) rfl
        · intro u w_ hc hd K hK -- 32
          have h30 : (Fact.val (.slice (some ⟨g, 0, none⟩) n c)).holds (u 30) w_ := hd.get 22 (by kernel_rfl)
          simp only [Fact.holds] at h30
          have h31 : (Fact.val (.int .i64 (j : Int))).holds (u 31) w_ := hd.get 23 (by kernel_rfl)
          simp only [Fact.holds] at h31
          have h15 : (Fact.val (.bool true)).holds (u 15) w_ := hd.get 7 (by kernel_rfl)
          simp only [Fact.holds] at h15
          clear hd
          simp only [h15, h30, h31] at hK
          go_simp
          exact hK.out (.pointer (some ⟨g, j * 2, none⟩)) w_ (Chg.refl _ _) rfl
        · intro u w_ hc hd K hK -- 33
          have h32 : (Fact.val (.pointer (some ⟨g, j * 2, none⟩))).holds (u 32) w_ := hd.get 24 (by kernel_rfl)
          simp only [Fact.holds] at h32
          have h15 : (Fact.val (.bool true)).holds (u 15) w_ := hd.get 7 (by kernel_rfl)
          simp only [Fact.holds] at h15
          clear hd
          simp only [h15, h32] at hK
          have x0 := cell_chg c20 hc
          have x1 := cell_chg c21 hc
          go_simp
          exact hK.out _ w_ (Chg.refl _ _) rfl
        · intro u w_ hc hd K hK -- 34
          have h19 : (Fact.val (chF)).holds (u 19) w_ := hd.get 11 (by kernel_rfl)
          simp only [Fact.holds] at h19
          have h26 : (Fact.val (.agg #[.int .i64 pp.1, .int .i64 pp.2])).holds (u 26) w_ := hd.get 18 (by kernel_rfl)
          simp only [Fact.holds] at h26
          have h33 : (Fact.val (.agg #[.int .i64 pj.1, .int .i64 pj.2])).holds (u 33) w_ := hd.get 25 (by kernel_rfl)
          simp only [Fact.holds] at h33
          have h15 : (Fact.val (.bool true)).holds (u 15) w_ := hd.get 7 (by kernel_rfl)
          simp only [Fact.holds] at h15
          clear hd
          simp only [h15, h19, h26, h33] at hK
          unfold chF at *
          go_simp
          refine Calls.mono (cheaper_any pp pj w_) ?_
          rintro z w2 ⟨rfl, c2⟩
          rw [HB.out]
          exact hK.out _ w2 c2 rfl
      · intro u w7 hc hA K hK
        have h15 : (Fact.val (.bool true)).holds (u 15) w7 := hA.at 15 (by kernel_rfl)
        have h34 : (Fact.val (.bool b)).holds (u 34) w7 := hA.at 34 (by kernel_rfl)
        simp only [Fact.holds] at h15 h34
        clear hA
        have HC7 : Hid (Chg (fun _ => False) wr w7) := hc
        clear hc k0 k1 c10 c11 c20 c21
        simp only [h15, h34] at hK ⊢
        go_simp
        refine hK.out _ _ ?_
        clear hK h15 h34
        cases b with
        | false =>
          go_wp2
          go_end0
          refine ⟨rfl, l2, HI.out.2.2.2.1.new HC7.out, HI.out.2.2.1, dn_end HI.out.2.1 (fun k a1 a2 a3 => ?_), HI.out.2.2.2.2.trans HC7.out (fun _ f => f.elim)⟩
          refine le_trans ?_ (HLM.out k a1 a2 a3).2
          rw [HPJ.out.1, HPJ.out.2]
          exact ltb_not HB.out
        | true =>
          have hH := HI.out.2.2.2.1.new HC7.out
          have hlen := HI.out.1
          have hO : w7.ownsRow B 47 2 (.slice (some ⟨g, 0, none⟩) n c) n (prcs l2) := by have := hH.own; rw [hlen] at this; exact this
          go_upto_region 3 with fail
          obtain ⟨W0, hW0⟩ : ∃ W0, w7.drew = W0 := ⟨_, rfl⟩
          have cD : Chg (fun _ => False) w7 W0 := by rw [← hW0]; exact (Chg.refl _ w7).drew
          have hO0 := owns_keep hO cD (fun _ _ f => f)
          have k0 := cell_chg (cell0 hH.blk) cD
          have k1 := cell_chg (cell1 hH.blk) cD
          obtain ⟨⟨c10, c11⟩, f1, x1, y1, hO1, d1⟩ := put2 hO0 hlen j hjn pp
          have hlen1 : (l2.set j pp).length = n := by simpa using hlen
          obtain ⟨⟨c20, c21⟩, f2, x2, y2, hO2, d2⟩ := put2 hO1 hlen1 p hpn pj
          obtain ⟨e20, e21⟩ := (put2 hO0 hlen p hpn pj).1
          rw [HPJ.out.1] at c10 c11 x1
          rw [HPJ.out.2] at e20 e21
          have HS : Hid ((l2.set j pp).set p pj = swp l2 j p) := by show _ = _; unfold swp; rw [HPJ.out.1, HPJ.out.2]
          obtain ⟨W1, hW1⟩ : ∃ W1, (W0.setCell ⟨g, j * 2, none⟩ (.int .i64 pp.1)).setCell ⟨g, j * 2 + 1, none⟩ (.int .i64 pp.2) = W1 := ⟨_, rfl⟩
          have HW1 : Hid ((W0.setCell ⟨g, j * 2, none⟩ (.int .i64 pp.1)).setCell ⟨g, j * 2 + 1, none⟩ (.int .i64 pp.2) = W1) := hW1
          rw [hW1] at c20 c21 f2 x2 y2 hO2 d1 d2
          have HG : Hid (g ≠ a) := fun e => hH.ne (by subst e; rfl)
          have HD : Hid (Chg (fun z => z = g) w7 ((W1.setCell ⟨g, p * 2, none⟩ (.int .i64 pj.1)).setCell ⟨g, p * 2 + 1, none⟩ (.int .i64 pj.2))) := ((cD.mono (fun _ f => f.elim)).trans d1 (fun _ f => .inl f)).trans d2 (fun _ f => .inl f)
          have HO2 : Hid _ := hO2
          have HH7 : Hid (Hl w7 B a chF (.slice (some ⟨g, 0, none⟩) n c) l2) := hH
          clear hH hlen hO hO0 hO1 d1 d2 hlen1 hW1 cD hO2
          have HW0 : Hid (w7.drew = W0) := hW0
          clear hW0
          refine wp_region_phaseM (mk := fun u => #[_, _, _, _, _, _, _, _, _, _, _, _, _, _, _, _, _, _, _, _, _, _, _, _, _, _, _, _, _, _, _, _, _, _, _, _, _, _, _, u 39, u 40, u 41, u 42, u 43, u 44, u 45, u 46, u 47, u 48, u 49, u 50, u 51, u 52, u 53, u 54, u 55, u 56, u 57, u 58, u 59, u 60, u 61, u 62, u 63, u 64, _]) (G := lookG [(39, .pointer (some ⟨a, 0, none⟩)), (40, .pointer (some ⟨a, 0, none⟩)), (41, .pointer (some ⟨a, 1, none⟩)), (42, .slice (some ⟨g, 0, none⟩) n c), (43, .int .i64 (j : Int)), (44, .pointer (some ⟨a, 0, none⟩)), (45, .pointer (some ⟨a, 0, none⟩)), (46, .pointer (some ⟨a, 1, none⟩)), (47, .slice (some ⟨g, 0, none⟩) n c), (48, .int .i64 (p : Int)), (49, .pointer (some ⟨a, 0, none⟩)), (50, .pointer (some ⟨a, 0, none⟩)), (51, .pointer (some ⟨a, 1, none⟩)), (52, .slice (some ⟨g, 0, none⟩) n c), (53, .int .i64 (p : Int)), (54, .pointer (some ⟨g, p * 2, none⟩)), (55, .agg #[.int .i64 pp.1, .int .i64 pp.2]), (56, .pointer (some ⟨a, 0, none⟩)), (57, .pointer (some ⟨a, 0, none⟩)), (58, .pointer (some ⟨a, 1, none⟩)), (59, .slice (some ⟨g, 0, none⟩) n c), (60, .int .i64 (j : Int)), (61, .pointer (some ⟨g, j * 2, none⟩)), (62, .agg #[.int .i64 pj.1, .int .i64 pj.2]), (63, .pointer (some ⟨g, j * 2, none⟩)), (64, .pointer (some ⟨g, p * 2, none⟩))]) (J := fun q u ww => SwJ W0 W1 q ww) [25] (fun i => if i = 3 then 0 else if i = 8 then 0 else if i = 13 then 0 else if i = 16 then 0 else if i = 20 then 0 else if i = 23 then 0 else 1) ([]) (fun slot => match slot with | 39 => u39 | 40 => u40 | 41 => u41 | 42 => u42 | 43 => u43 | 44 => u44 | 45 => u45 | 46 => u46 | 47 => u47 | 48 => u48 | 49 => u49 | 50 => u50 | 51 => u51 | 52 => u52 | 53 => u53 | 54 => u54 | 55 => u55 | 56 => u56 | 57 => u57 | 58 => u58 | 59 => u59 | 60 => u60 | 61 => u61 | 62 => u62 | 63 => u63 | 64 => u64 | _ => undef) rfl (by kernel_rfl) 27 _ rfl rfl (by kernel_rfl) (by kernel_rfl) (by kernel_rfl) (by decide) ?_ ?_ ?_ (by kernel_rfl) ?_ ?_
          · repeat (refine ⟨fun _ _ => rfl, ?_⟩)
            exact trivial
          · exact fun q u u2 ww _ h => h
          · exact HW0.out
          · refine ⟨?_, ?_, ?_, ?_, ?_, ?_, ?_, ?_, ?_, ?_, ?_, ?_, ?_, ?_, ?_, ?_, ?_, ?_, ?_, ?_, ?_, ?_, ?_, ?_, ?_, ?_, ?_, trivial⟩
            · show StepRQ _ _ _ _ _ _ _ _ _ -- 39
              unfold StepRQ
              intro qn hq u w_ hj hd K hK
              clear hd
              go_simp
              exact hK.out (.pointer (some ⟨a, 0, none⟩)) rfl
            · show StepRQ _ _ _ _ _ _ _ _ _ -- 40
              unfold StepRQ
              intro qn hq u w_ hj hd K hK
              have h39 : u 39 = .pointer (some ⟨a, 0, none⟩) := hd.get 0 (by kernel_rfl)
              clear hd
              simp only [h39] at hK
              go_simp
              exact hK.out (.pointer (some ⟨a, 0, none⟩)) rfl
            · show StepRQ _ _ _ _ _ _ _ _ _ -- 41
              unfold StepRQ
              intro qn hq u w_ hj hd K hK
              have h40 : u 40 = .pointer (some ⟨a, 0, none⟩) := hd.get 1 (by kernel_rfl)
              clear hd
              simp only [h40] at hK
              go_simp
              exact hK.out (.pointer (some ⟨a, 1, none⟩)) rfl
            · show StepRQ _ _ _ _ _ _ _ _ _ -- 42
              unfold StepRQ
              intro qn hq u w_ hj hd K hK
              have h41 : u 41 = .pointer (some ⟨a, 1, none⟩) := hd.get 2 (by kernel_rfl)
              clear hd
              simp only [h41] at hK
              obtain rfl : qn = 0 := by simpa using hq
              obtain rfl : w_ = W0 := hj
              go_simp
              exact hK.out _ rfl
            · show StepRQ _ _ _ _ _ _ _ _ _ -- 43
              unfold StepRQ
              intro qn hq u w_ hj hd K hK
              clear hd
              go_simp
              exact hK.out (.int .i64 (j : Int)) rfl
            · show StepRQ _ _ _ _ _ _ _ _ _ -- 44
              unfold StepRQ
              intro qn hq u w_ hj hd K hK
              clear hd
              go_simp
              exact hK.out (.pointer (some ⟨a, 0, none⟩)) rfl
            · show StepRQ _ _ _ _ _ _ _ _ _ -- 45
              unfold StepRQ
              intro qn hq u w_ hj hd K hK
              have h44 : u 44 = .pointer (some ⟨a, 0, none⟩) := hd.get 5 (by kernel_rfl)
              clear hd
              simp only [h44] at hK
              go_simp
              exact hK.out (.pointer (some ⟨a, 0, none⟩)) rfl
            · show StepRQ _ _ _ _ _ _ _ _ _ -- 46
              unfold StepRQ
              intro qn hq u w_ hj hd K hK
              have h45 : u 45 = .pointer (some ⟨a, 0, none⟩) := hd.get 6 (by kernel_rfl)
              clear hd
              simp only [h45] at hK
              go_simp
              exact hK.out (.pointer (some ⟨a, 1, none⟩)) rfl
            · show StepRQ _ _ _ _ _ _ _ _ _ -- 47
              unfold StepRQ
              intro qn hq u w_ hj hd K hK
              have h46 : u 46 = .pointer (some ⟨a, 1, none⟩) := hd.get 7 (by kernel_rfl)
              clear hd
              simp only [h46] at hK
              obtain rfl : qn = 0 := by simpa using hq
              obtain rfl : w_ = W0 := hj
              go_simp
              exact hK.out _ rfl
            · show StepRQ _ _ _ _ _ _ _ _ _ -- 48
              unfold StepRQ
              intro qn hq u w_ hj hd K hK
              clear hd
              go_simp
              exact hK.out (.int .i64 (p : Int)) rfl
            · show StepRQ _ _ _ _ _ _ _ _ _ -- 49
              unfold StepRQ
              intro qn hq u w_ hj hd K hK
              clear hd
              go_simp
              exact hK.out (.pointer (some ⟨a, 0, none⟩)) rfl
            · show StepRQ _ _ _ _ _ _ _ _ _ -- 50
              unfold StepRQ
              intro qn hq u w_ hj hd K hK
              have h49 : u 49 = .pointer (some ⟨a, 0, none⟩) := hd.get 10 (by kernel_rfl)
              clear hd
              simp only [h49] at hK
              go_simp
              exact hK.out (.pointer (some ⟨a, 0, none⟩)) rfl
            · show StepRQ _ _ _ _ _ _ _ _ _ -- 51
              unfold StepRQ
              intro qn hq u w_ hj hd K hK
              have h50 : u 50 = .pointer (some ⟨a, 0, none⟩) := hd.get 11 (by kernel_rfl)
              clear hd
              simp only [h50] at hK
              go_simp
              exact hK.out (.pointer (some ⟨a, 1, none⟩)) rfl
            · show StepRQ _ _ _ _ _ _ _ _ _ -- 52
              unfold StepRQ
              intro qn hq u w_ hj hd K hK
              have h51 : u 51 = .pointer (some ⟨a, 1, none⟩) := hd.get 12 (by kernel_rfl)
              clear hd
              simp only [h51] at hK
              obtain rfl : qn = 0 := by simpa using hq
              obtain rfl : w_ = W0 := hj
              go_simp
              exact hK.out _ rfl
            · show StepRQ _ _ _ _ _ _ _ _ _ -- 53
              unfold StepRQ
              intro qn hq u w_ hj hd K hK
              clear hd
              go_simp
              exact hK.out (.int .i64 (p : Int)) rfl
            · show StepRQ _ _ _ _ _ _ _ _ _ -- 54
              unfold StepRQ
              intro qn hq u w_ hj hd K hK
              have h52 : u 52 = .slice (some ⟨g, 0, none⟩) n c := hd.get 13 (by kernel_rfl)
              have h53 : u 53 = .int .i64 (p : Int) := hd.get 14 (by kernel_rfl)
              clear hd
              simp only [h52, h53] at hK
              go_simp
              exact hK.out (.pointer (some ⟨g, p * 2, none⟩)) rfl
            · show StepRQ _ _ _ _ _ _ _ _ _ -- 55
              unfold StepRQ
              intro qn hq u w_ hj hd K hK
              have h54 : u 54 = .pointer (some ⟨g, p * 2, none⟩) := hd.get 15 (by kernel_rfl)
              clear hd
              simp only [h54] at hK
              obtain rfl : qn = 0 := by simpa using hq
              obtain rfl : w_ = W0 := hj
              go_simp
              exact hK.out _ rfl
            · show StepRQ _ _ _ _ _ _ _ _ _ -- 56
              unfold StepRQ
              intro qn hq u w_ hj hd K hK
              clear hd
              go_simp
              exact hK.out (.pointer (some ⟨a, 0, none⟩)) rfl
            · show StepRQ _ _ _ _ _ _ _ _ _ -- 57
              unfold StepRQ
              intro qn hq u w_ hj hd K hK
              have h56 : u 56 = .pointer (some ⟨a, 0, none⟩) := hd.get 17 (by kernel_rfl)
              clear hd
              simp only [h56] at hK
              go_simp
              exact hK.out (.pointer (some ⟨a, 0, none⟩)) rfl
            · show StepRQ _ _ _ _ _ _ _ _ _ -- 58
              unfold StepRQ
              intro qn hq u w_ hj hd K hK
              have h57 : u 57 = .pointer (some ⟨a, 0, none⟩) := hd.get 18 (by kernel_rfl)
              clear hd
              simp only [h57] at hK
              go_simp
              exact hK.out (.pointer (some ⟨a, 1, none⟩)) rfl
            · show StepRQ _ _ _ _ _ _ _ _ _ -- 59
              unfold StepRQ
              intro qn hq u w_ hj hd K hK
              have h58 : u 58 = .pointer (some ⟨a, 1, none⟩) := hd.get 19 (by kernel_rfl)
              clear hd
              simp only [h58] at hK
              obtain rfl : qn = 0 := by simpa using hq
              obtain rfl : w_ = W0 := hj
              go_simp
              exact hK.out _ rfl
            · show StepRQ _ _ _ _ _ _ _ _ _ -- 60
              unfold StepRQ
              intro qn hq u w_ hj hd K hK
              clear hd
              go_simp
              exact hK.out (.int .i64 (j : Int)) rfl
            · show StepRQ _ _ _ _ _ _ _ _ _ -- 61
              unfold StepRQ
              intro qn hq u w_ hj hd K hK
              have h59 : u 59 = .slice (some ⟨g, 0, none⟩) n c := hd.get 20 (by kernel_rfl)
              have h60 : u 60 = .int .i64 (j : Int) := hd.get 21 (by kernel_rfl)
              clear hd
              simp only [h59, h60] at hK
              go_simp
              exact hK.out (.pointer (some ⟨g, j * 2, none⟩)) rfl
            · show StepRQ _ _ _ _ _ _ _ _ _ -- 62
              unfold StepRQ
              intro qn hq u w_ hj hd K hK
              have h61 : u 61 = .pointer (some ⟨g, j * 2, none⟩) := hd.get 22 (by kernel_rfl)
              clear hd
              simp only [h61] at hK
              obtain rfl : qn = 0 := by simpa using hq
              obtain rfl : w_ = W0 := hj
              go_simp
              exact hK.out _ rfl
            · show StepRQ _ _ _ _ _ _ _ _ _ -- 63
              unfold StepRQ
              intro qn hq u w_ hj hd K hK
              have h42 : u 42 = .slice (some ⟨g, 0, none⟩) n c := hd.get 3 (by kernel_rfl)
              have h43 : u 43 = .int .i64 (j : Int) := hd.get 4 (by kernel_rfl)
              clear hd
              simp only [h42, h43] at hK
              go_simp
              exact hK.out (.pointer (some ⟨g, j * 2, none⟩)) rfl
            · show StepWQ _ _ _ _ _ _ _ _ _ -- #25
              unfold StepWQ
              intro u w_ hj hd K hK
              have h63 : u 63 = .pointer (some ⟨g, j * 2, none⟩) := hd.get 24 (by kernel_rfl)
              have h55 : u 55 = .agg #[.int .i64 pp.1, .int .i64 pp.2] := hd.get 16 (by kernel_rfl)
              clear hd
              simp only [h63, h55] at hK
              obtain rfl : w_ = W0 := hj
              go_simp
              rw [HW1.out]
              exact hK.out undef _ rfl trivial
            · show StepRQ _ _ _ _ _ _ _ _ _ -- 64
              unfold StepRQ
              intro qn hq u w_ hj hd K hK
              have h47 : u 47 = .slice (some ⟨g, 0, none⟩) n c := hd.get 8 (by kernel_rfl)
              have h48 : u 48 = .int .i64 (p : Int) := hd.get 9 (by kernel_rfl)
              clear hd
              simp only [h47, h48] at hK
              go_simp
              exact hK.out (.pointer (some ⟨g, p * 2, none⟩)) rfl
          · intro u w7_ hj hA K hK
            obtain rfl : w7_ = W1 := hj
            have h64 : u 64 = .pointer (some ⟨g, p * 2, none⟩) := hA.at 64 (by kernel_rfl)
            have h62 : u 62 = .agg #[.int .i64 pj.1, .int .i64 pj.2] := hA.at 62 (by kernel_rfl)
            clear hA
            simp only [h64, h62] at hK ⊢
            go_simp
            refine hK.out _ _ ?_
            have HE : Hid (Hl ((w7_.setCell ⟨g, p * 2, none⟩ (.int .i64 pj.1)).setCell ⟨g, p * 2 + 1, none⟩ (.int .i64 pj.2)) B a chF (.slice (some ⟨g, 0, none⟩) n c) (swp l2 j p)) := by
              refine ⟨HH7.out.ha, blk_keep HH7.out.blk HD.out (fun e => HG.out e.symm), ?_⟩
              have h9 := HO2.out
              rw [HS.out] at h9
              rw [swp_len, HI.out.1]
              exact h9
            generalize (w7_.setCell ⟨g, p * 2, none⟩ (.int .i64 pj.1)).setCell ⟨g, p * 2 + 1, none⟩ (.int .i64 pj.2) = W2 at *
            have HX : Hid _ := below_any B a p g n c (swp l2 j p) W2 HE.out ((swp_len _ _ _).trans HI.out.1) (by omega) hn
            clear hK h64 h62 k0 k1 c10 c11 f1 x1 y1 c20 c21 f2 x2 y2 e20 e21
            go_wp2_with fail
            refine Calls.mono HX.out ?_
            rintro z w9 ⟨rfl, c9⟩
            have HC9 : Hid (Chg (fun _ => False) W2 w9) := c9
            clear c9 HX
            go_wp2_with fail
            refine ⟨⟨p, swp l2 j p, by omega, rfl, rfl, (swp_len _ _ _).trans HI.out.1, ?_, (swp_perm (by rw [HI.out.1]; exact hjn) (by rw [HI.out.1]; exact hpn)).trans HI.out.2.2.1, HE.out.new HC9.out, ((HI.out.2.2.2.2.trans HC7.out (fun _ f => f.elim)).trans HD.out (fun _ f => .inl f)).trans HC9.out (fun _ f => f.elim)⟩, by have := HJL.out; simp [intOf]; omega⟩
            exact dn_go HI.out.2.1 HLU.out.1 (by rw [HI.out.1]; exact hpn) HLU.out.2 (by rw [HPJ.out.1, HPJ.out.2]; exact ltb_le HB.out) (fun k a1 a2 a3 => (HLM.out k a1 a2 a3).2)
end Go.Proofs.Ytoeimahlielklaa
