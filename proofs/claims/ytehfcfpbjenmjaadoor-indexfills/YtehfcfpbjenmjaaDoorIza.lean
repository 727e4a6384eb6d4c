/- The landed index's sums, a record more; of no statement by itself. -/
import Derived.Test.YtehfcfpbjenmjaaDoorIxl
import Derived.Test.YtehfcfpbjenmjaaDoorIxf
import Derived.Test.YtehfcfpbjenmjaaDoorWirm
namespace Go.Proofs.YtehfcfpbjenmjaaDoor
open Go.RowKit
set_option linter.unusedVariables false
set_option linter.unusedSimpArgs false
theorem one0 {w : World} {a : Nat} {x : Value} {t : TypeId} (h : w.heap[a]? = some (.cells #[x] t (0, 0))) : w.cell? ⟨a, 0, none⟩ = some x := by simp [World.cell?, h]
theorem fr0 {w : World} {a : Nat} {x : Value} {t : TypeId} (h : w.heap[a]? = some (.cells #[x] t (0, 0))) : w.frozen? ⟨a, 0, none⟩ = false := by simp [World.frozen?, h]
/-- Sums at block b. -/
def Sms (w : World) (b : Nat) (x y : Int) : Prop := w.heap[b]? = some (.cells #[.int .i64 x, .int .i64 y] 85 (0, 0))
theorem Sms.keep {w w' : World} {b : Nat} {x y : Int} {S : Nat → Prop} (h : Sms w b x y) (c : Chg S w w') (hS : ¬ S b) : Sms w' b x y := blk_keep h c hS
theorem Sms.set0 {w : World} {b : Nat} {x y : Int} (h : Sms w b x y) (u : Int) : Sms (w.setCell ⟨b, 0, none⟩ (.int .i64 u)) b u y := Vint.blk_setk (l := [.int .i64 x, .int .i64 y]) h 0 _
theorem Sms.set1 {w : World} {b : Nat} {x y : Int} (h : Sms w b x y) (u : Int) : Sms (w.setCell ⟨b, 1, none⟩ (.int .i64 u)) b x u := Vint.blk_setk (l := [.int .i64 x, .int .i64 y]) h 1 _
theorem Sms.fr {w : World} {b : Nat} {x y : Int} (h : Sms w b x y) (i : Nat) : w.frozen? ⟨b, i, none⟩ = false := by unfold Sms at h; simp [World.frozen?, h]
def fitU (x n : Int) : Bool := decide (5 ≤ n) && decide (n ≤ 9223372036854775804) && decide (x + Ix23.pad n ≤ 9223372036854775807)
def fitP (y n : Int) : Bool := decide (0 ≤ n) && decide (y + n ≤ 9223372036854775807)
theorem fitB_two (x y u s : Int) : Ix23.fitB x y ⟨u, s⟩ = (fitU x u && fitP y s) := by
  unfold Ix23.fitB fitU fitP
  rw [Bool.eq_iff_iff]
  simp only [Bool.and_eq_true, decide_eq_true_eq]
  constructor <;> intro h <;> omega
set_option maxHeartbeats 2000000 in
theorem add_yes (b i : Nat) (x n : Int) (w : World) (hc : w.cell? ⟨b, i, none⟩ = some (.int .i64 x)) (hf : w.frozen? ⟨b, i, none⟩ = false) (hx0 : 0 ≤ x) (hx1 : x ≤ 9223372036854775807) (hn0 : 0 ≤ n) (hn1 : n ≤ 9223372036854775807) (h : x + n ≤ 9223372036854775807) : Calls Tryd.prog 67 #[.pointer (some ⟨b, i, none⟩), .int .i64 n] w fun e w' => e = .returned (.bool true) ∧ w' = w.setCell ⟨b, i, none⟩ (.int .i64 (x + n)) := by
  have d1 : decide (9223372036854775807 - x < n) = false := decide_eq_false (by omega)
  go_enter Tryd.func67, Tryd.ntmps67
  go_wp2
  go_ret
  exact ⟨rfl, rfl⟩
theorem add_no (b i : Nat) (x n : Int) (w : World) (hc : w.cell? ⟨b, i, none⟩ = some (.int .i64 x)) (hx0 : 0 ≤ x) (hx1 : x ≤ 9223372036854775807) (hn0 : 0 ≤ n) (hn1 : n ≤ 9223372036854775807) (h : ¬ x + n ≤ 9223372036854775807) : Calls Tryd.prog 67 #[.pointer (some ⟨b, i, none⟩), .int .i64 n] w fun e w' => e = .returned (.bool false) ∧ w' = w := by
  have d1 : decide (9223372036854775807 - x < n) = true := decide_eq_true (by omega)
  go_enter Tryd.func67, Tryd.ntmps67
  go_wp2
  go_ret
  exact ⟨rfl, rfl⟩
theorem add0_any (b : Nat) (x y n : Int) (w : World) (h : Sms w b x y) (hx0 : 0 ≤ x) (hx1 : x ≤ 9223372036854775807) (hn0 : 0 ≤ n) (hn1 : n ≤ 9223372036854775807) : Calls Tryd.prog 67 #[.pointer (some ⟨b, 0, none⟩), .int .i64 n] w fun e w' => e = .returned (.bool (decide (x + n ≤ 9223372036854775807))) ∧ Sms w' b (if x + n ≤ 9223372036854775807 then x + n else x) y ∧ Chg (fun k => k = b) w w' := by
  by_cases k : x + n ≤ 9223372036854775807
  · rw [decide_eq_true k, if_pos k]
    refine Calls.mono (add_yes b 0 x n w (cell0 h) (h.fr 0) hx0 hx1 hn0 hn1 k) ?_
    rintro e w' ⟨rfl, rfl⟩
    exact ⟨rfl, h.set0 _, (Chg.refl (fun z => z = b) w).setCell (p := ⟨b, 0, none⟩) (.inl rfl) _⟩
  · rw [decide_eq_false k, if_neg k]
    refine Calls.mono (add_no b 0 x n w (cell0 h) hx0 hx1 hn0 hn1 k) ?_
    rintro e w' ⟨rfl, rfl⟩
    exact ⟨rfl, h, Chg.refl _ _⟩
theorem add1_any (b : Nat) (x y n : Int) (w : World) (h : Sms w b x y) (hx0 : 0 ≤ y) (hx1 : y ≤ 9223372036854775807) (hn0 : 0 ≤ n) (hn1 : n ≤ 9223372036854775807) : Calls Tryd.prog 67 #[.pointer (some ⟨b, 1, none⟩), .int .i64 n] w fun e w' => e = .returned (.bool (decide (y + n ≤ 9223372036854775807))) ∧ Sms w' b x (if y + n ≤ 9223372036854775807 then y + n else y) ∧ Chg (fun k => k = b) w w' := by
  by_cases k : y + n ≤ 9223372036854775807
  · rw [decide_eq_true k, if_pos k]
    refine Calls.mono (add_yes b 1 y n w (cell1 h) (h.fr 1) hx0 hx1 hn0 hn1 k) ?_
    rintro e w' ⟨rfl, rfl⟩
    exact ⟨rfl, h.set1 _, (Chg.refl (fun z => z = b) w).setCell (p := ⟨b, 1, none⟩) (.inl rfl) _⟩
  · rw [decide_eq_false k, if_neg k]
    refine Calls.mono (add_no b 1 y n w (cell1 h) hx0 hx1 hn0 hn1 k) ?_
    rintro e w' ⟨rfl, rfl⟩
    exact ⟨rfl, h, Chg.refl _ _⟩
set_option maxHeartbeats 8000000 in
set_option maxRecDepth 100000 in
theorem takeU_any (b : Nat) (x y n : Int) (w0 : World) (h : Sms w0 b x y) (hx0 : 0 ≤ x) (hx1 : x ≤ 9223372036854775807) (hn : I64 n) : Calls Tryd.prog 55 #[.pointer (some ⟨b, 0, none⟩), .int .i64 n] w0 fun e w' => e = .returned (.bool (fitU x n)) ∧ Sms w' b (if fitU x n = true then x + Ix23.pad n else x) y ∧ Chg (fun k => k = b) w0 w' := by
  obtain ⟨n0, n1⟩ := hn
  have HS : Hid (Sms w0 b x y) := h
  clear h
  by_cases h1 : 5 ≤ n
  rotate_left
  · have d1 : decide (5 ≤ n) = false := decide_eq_false h1
    have e : fitU x n = false := by unfold fitU; rw [d1]; rfl
    rw [e]
    clear e
    go_enter Tryd.func55, Tryd.ntmps55
    go_wp2_with fail
    go_quiet (fail)
    go_wp2
    go_ret
    exact ⟨rfl, HS.out, Vint.chg_drewN _ _⟩
  by_cases h2 : n ≤ 9223372036854775804
  rotate_left
  · have d1 : decide (5 ≤ n) = true := decide_eq_true h1
    have d2 : decide (n ≤ 9223372036854775804) = false := decide_eq_false h2
    have e : fitU x n = false := by unfold fitU; rw [d2]; simp
    rw [e]
    clear e
    go_enter Tryd.func55, Tryd.ntmps55
    go_wp2_with fail
    go_quiet (fail)
    go_wp2
    go_ret
    exact ⟨rfl, HS.out, Vint.chg_drewN _ _⟩
  have d1 : decide (5 ≤ n) = true := decide_eq_true h1
  have d2 : decide (n ≤ 9223372036854775804) = true := decide_eq_true h2
  obtain ⟨p, hp⟩ : ∃ p, (4 - n % 4) % 4 = p := ⟨_, rfl⟩
  have hp0 : 0 ≤ p := by omega
  have hp3 : p ≤ 3 := by omega
  have hnp0 : 0 ≤ n + p := by omega
  have HWR : Hid (IntKind.i64.wrap (n + p) = n + p) := by show _ = _; simp [IntKind.wrap, IntKind.signed, IntKind.bits]; omega
  obtain ⟨q, hq⟩ : ∃ q, n + p = q := ⟨_, rfl⟩
  have hpd : Ix23.pad n = q := by unfold Ix23.pad; omega
  have e : fitU x n = decide (x + q ≤ 9223372036854775807) := by unfold fitU; rw [d1, d2, hpd]; rfl
  have HPD : Hid (∀ w : World, Calls Tryd.prog 37 #[.int .i64 n] w fun e w' => e = .returned (.int .i64 p) ∧ w = w') := fun w => by
    have h9 := Wire.pad_pos n w (by omega) (by omega)
    rw [hp] at h9
    exact h9
  have HAD0 : Hid (∀ w : World, Sms w b x y → Calls Tryd.prog 67 #[.pointer (some ⟨b, 0, none⟩), .int .i64 q] w fun e w' => e = .returned (.bool (decide (x + q ≤ 9223372036854775807))) ∧ Sms w' b (if x + q ≤ 9223372036854775807 then x + q else x) y ∧ Chg (fun k => k = b) w w') := fun w hw => add0_any b x y q w hw hx0 hx1 (by omega) (by omega)
  rw [e, hpd]
  obtain ⟨ok, hok⟩ : ∃ o, decide (x + q ≤ 9223372036854775807) = o := ⟨_, rfl⟩
  obtain ⟨r, hr⟩ : ∃ r, (if x + q ≤ 9223372036854775807 then x + q else x) = r := ⟨_, rfl⟩
  have hr2 : (if ok = true then x + q else x) = r := by rw [← hok, ← hr]; simp
  rw [hok, hr2]
  have HAD : Hid (∀ w : World, Sms w b (if 0 = 0 then x else r) y → Calls Tryd.prog 67 #[.pointer (some ⟨b, 0, none⟩), .int .i64 (n + p)] w fun e w' => e = .returned (.bool ok) ∧ Sms w' b (if 0 + 1 = 0 then x else r) y ∧ Chg (fun k => k = b) w w') := fun w hw => by
    have h9 := HAD0.out w hw
    rw [hok, hr, ← hq] at h9
    exact h9
  have hqi : n + p ≤ 9223372036854775807 := by omega
  clear HAD0 hok hr hr2 e hp hpd hq
  go_enter Tryd.func55, Tryd.ntmps55
  go_upto_region 1 with fail
  refine wp_region_phaseQ (mk := fun u => #[_, _, _, _, _, u 5, u 6, u 7, u 8, u 9, u 10, u 11, u 12, u 13, u 14, u 15, u 16, u 17, u 18, u 19, u 20]) (G := lookG [(5, .int .i64 n), (6, .bool true), (7, .bool true), (8, .int .i64 n), (9, .bool true), (10, .bool true), (11, .bool true), (12, .pointer (some ⟨b, 0, none⟩)), (13, .pointer (some ⟨b, 0, none⟩)), (14, .pointer (some ⟨b, 0, none⟩)), (15, .int .i64 n), (16, .int .i64 n), (17, .int .i64 p), (18, .int .i64 (n + p)), (19, .bool ok), (20, .bool ok)]) (J := fun qk _ ww => Sms ww b (if qk = 0 then x else r) y ∧ Chg (fun k => k = b) w0 ww) [14] (fun i =>  1) ([]) (fun _ => undef) rfl (by kernel_rfl) 16 _ rfl rfl (by kernel_rfl) (by kernel_rfl) (by kernel_rfl) (by decide) ?_ ?_ ?_ (by kernel_rfl) ?_ ?_
  · repeat (refine ⟨fun _ _ => rfl, ?_⟩)
    exact trivial
  · exact fun _ _ _ _ _ h => h
  · exact ⟨HS.out, (Chg.refl _ _).drew⟩
  · refine ⟨?_, ?_, ?_, ?_, ?_, ?_, ?_, ?_, ?_, ?_, ?_, ?_, ?_, ?_, ?_, ?_, trivial⟩
    · show StepRQ _ _ _ _ _ _ _ _ _ -- 5
      unfold StepRQ
      intro qn hq u w_ hj hd K hK
      clear hd
      go_simp
      exact hK.out (.int .i64 n) rfl
    · show StepRQ _ _ _ _ _ _ _ _ _ -- 6
      unfold StepRQ
      intro qn hq u w_ hj hd K hK
      have h5 : u 5 = .int .i64 n := hd.get 0 (by kernel_rfl)
      clear hd
      simp only [h5] at hK
      go_simp
      exact hK.out (.bool true) rfl
    · show StepRQ _ _ _ _ _ _ _ _ _ -- 7
      unfold StepRQ
      intro qn hq u w_ hj hd K hK
      have h6 : u 6 = .bool true := hd.get 1 (by kernel_rfl)
      clear hd
      simp only [h6] at hK
      go_simp
      exact hK.out (.bool true) rfl
    · show StepRQ _ _ _ _ _ _ _ _ _ -- 8
      unfold StepRQ
      intro qn hq u w_ hj hd K hK
      have h7 : u 7 = .bool true := hd.get 2 (by kernel_rfl)
      clear hd
      simp only [h7] at hK
      go_simp
      exact hK.out (.int .i64 n) rfl
    · show StepRQ _ _ _ _ _ _ _ _ _ -- 9
      unfold StepRQ
      intro qn hq u w_ hj hd K hK
      have h8 : u 8 = .int .i64 n := hd.get 3 (by kernel_rfl)
      have h7 : u 7 = .bool true := hd.get 2 (by kernel_rfl)
      clear hd
      simp only [h8, h7] at hK
      go_simp
      exact hK.out (.bool true) rfl
    · show StepRQ _ _ _ _ _ _ _ _ _ -- 10
      unfold StepRQ
      intro qn hq u w_ hj hd K hK
      have h7 : u 7 = .bool true := hd.get 2 (by kernel_rfl)
      have h9 : u 9 = .bool true := hd.get 4 (by kernel_rfl)
      clear hd
      simp only [h7, h9] at hK
      go_simp
      exact hK.out (.bool true) rfl
    · show StepRQ _ _ _ _ _ _ _ _ _ -- 11
      unfold StepRQ
      intro qn hq u w_ hj hd K hK
      have h10 : u 10 = .bool true := hd.get 5 (by kernel_rfl)
      clear hd
      simp only [h10] at hK
      go_simp
      exact hK.out (.bool true) rfl
    · show StepRQ _ _ _ _ _ _ _ _ _ -- 12
      unfold StepRQ
      intro qn hq u w_ hj hd K hK
      have h11 : u 11 = .bool true := hd.get 6 (by kernel_rfl)
      clear hd
      simp only [h11] at hK
      go_simp
      exact hK.out (.pointer (some ⟨b, 0, none⟩)) rfl
    · show StepRQ _ _ _ _ _ _ _ _ _ -- 13
      unfold StepRQ
      intro qn hq u w_ hj hd K hK
      have h12 : u 12 = .pointer (some ⟨b, 0, none⟩) := hd.get 7 (by kernel_rfl)
      have h11 : u 11 = .bool true := hd.get 6 (by kernel_rfl)
      clear hd
      simp only [h12, h11] at hK
      clear hj
      go_simp
      exact hK.out _ rfl
    · show StepRQ _ _ _ _ _ _ _ _ _ -- 14
      unfold StepRQ
      intro qn hq u w_ hj hd K hK
      have h13 : u 13 = .pointer (some ⟨b, 0, none⟩) := hd.get 8 (by kernel_rfl)
      have h11 : u 11 = .bool true := hd.get 6 (by kernel_rfl)
      clear hd
      simp only [h13, h11] at hK
      clear hj
      go_simp
      exact hK.out _ rfl
    · show StepRQ _ _ _ _ _ _ _ _ _ -- 15
      unfold StepRQ
      intro qn hq u w_ hj hd K hK
      have h11 : u 11 = .bool true := hd.get 6 (by kernel_rfl)
      clear hd
      simp only [h11] at hK
      go_simp
      exact hK.out (.int .i64 n) rfl
    · show StepRQ _ _ _ _ _ _ _ _ _ -- 16
      unfold StepRQ
      intro qn hq u w_ hj hd K hK
      have h11 : u 11 = .bool true := hd.get 6 (by kernel_rfl)
      clear hd
      simp only [h11] at hK
      go_simp
      exact hK.out (.int .i64 n) rfl
    · show StepRQ _ _ _ _ _ _ _ _ _ -- 17
      unfold StepRQ
      intro qn hq u w_ hj hd K hK
      have h16 : u 16 = .int .i64 n := hd.get 11 (by kernel_rfl)
      have h11 : u 11 = .bool true := hd.get 6 (by kernel_rfl)
      clear hd
      simp only [h16, h11] at hK
      go_simp
      go_at_call 37
      refine Calls.mono (HPD.out w_) ?_
      rintro z w2 ⟨rfl, rfl⟩
      exact hK.out _ rfl
    · show StepRQ _ _ _ _ _ _ _ _ _ -- 18
      unfold StepRQ
      intro qn hq u w_ hj hd K hK
      have h15 : u 15 = .int .i64 n := hd.get 10 (by kernel_rfl)
      have h17 : u 17 = .int .i64 p := hd.get 12 (by kernel_rfl)
      have h11 : u 11 = .bool true := hd.get 6 (by kernel_rfl)
      clear hd
      simp only [h15, h17, h11] at hK
      go_simp
      rw [HWR.out]
      exact hK.out _ rfl
    · show StepWQ _ _ _ _ _ _ _ _ _ -- 19
      unfold StepWQ
      intro u w_ hj hd K hK
      have h14 : u 14 = .pointer (some ⟨b, 0, none⟩) := hd.get 9 (by kernel_rfl)
      have h18 : u 18 = .int .i64 (n + p) := hd.get 13 (by kernel_rfl)
      have h11 : u 11 = .bool true := hd.get 6 (by kernel_rfl)
      clear hd
      simp only [h14, h18, h11] at hK
      have HJ : Hid _ := hj
      clear hj
      go_simp
      go_at_call 67
      refine Calls.mono (HAD.out w_ HJ.out.1) ?_
      rintro z w2 ⟨rfl, h2, c2⟩
      exact hK.out _ w2 ⟨h2, HJ.out.2.trans c2 (fun k e => .inl e)⟩ rfl
    · show StepRQ _ _ _ _ _ _ _ _ _ -- 20
      unfold StepRQ
      intro qn hq u w_ hj hd K hK
      have h11 : u 11 = .bool true := hd.get 6 (by kernel_rfl)
      have h19 : u 19 = .bool ok := hd.get 14 (by kernel_rfl)
      clear hd
      simp only [h11, h19] at hK
      go_simp
      exact hK.out (.bool ok) rfl
  · intro u w7 hj hA K hK
    have HJ : Hid _ := hj
    have e20 : u 20 = .bool ok := hA.at 20 (by kernel_rfl)
    clear hj hA
    simp only [e20] at hK ⊢
    clear e20
    go_simp
    refine hK.out _ _ ?_
    go_wp2
    go_ret
    exact ⟨rfl, HJ.out.1, HJ.out.2⟩
set_option maxHeartbeats 4000000 in
set_option maxRecDepth 100000 in
theorem takeP_any (b : Nat) (x y n : Int) (w0 : World) (h : Sms w0 b x y) (hx0 : 0 ≤ y) (hx1 : y ≤ 9223372036854775807) (hn : I64 n) : Calls Tryd.prog 56 #[.pointer (some ⟨b, 0, none⟩), .int .i64 n] w0 fun e w' => e = .returned (.bool (fitP y n)) ∧ Sms w' b x (if fitP y n = true then y + n else y) ∧ Chg (fun k => k = b) w0 w' := by
  obtain ⟨n0, n1⟩ := hn
  have HS : Hid (Sms w0 b x y) := h
  by_cases h1 : 0 ≤ n
  rotate_left
  · have d1 : decide (0 ≤ n) = false := decide_eq_false h1
    have e : fitP y n = false := by unfold fitP; rw [d1]; rfl
    rw [e]
    clear e h
    go_enter Tryd.func56, Tryd.ntmps56
    go_wp2
    go_ret
    exact ⟨rfl, HS.out, Chg.refl _ _⟩
  have d1 : decide (0 ≤ n) = true := decide_eq_true h1
  have e : fitP y n = decide (y + n ≤ 9223372036854775807) := by unfold fitP; rw [d1]; rfl
  have HAD : Hid _ := add1_any b x y n w0 h hx0 hx1 h1 n1
  rw [e]
  obtain ⟨ok, hok⟩ : ∃ o, decide (y + n ≤ 9223372036854775807) = o := ⟨_, rfl⟩
  have hr : (if y + n ≤ 9223372036854775807 then y + n else y) = (if ok = true then y + n else y) := by rw [← hok]; simp
  obtain ⟨r, hr2⟩ : ∃ r, (if ok = true then y + n else y) = r := ⟨_, rfl⟩
  rw [hok, hr, hr2] at HAD
  rw [hok, hr2]
  clear e h hok hr hr2
  go_enter Tryd.func56, Tryd.ntmps56
  go_wp2_with fail
  refine Calls.mono HAD.out ?_
  rintro z w2 ⟨rfl, h2, c2⟩
  have H2 : Hid _ := And.intro h2 c2
  clear h2 c2 HAD
  go_wp2
  go_ret
  exact ⟨rfl, H2.out.1, H2.out.2⟩
set_option maxHeartbeats 4000000 in
set_option maxRecDepth 100000 in
theorem take23_any (b : Nat) (x y u s : Int) (w0 : World) (h : Sms w0 b x y) (hx0 : 0 ≤ x) (hx1 : x ≤ 9223372036854775807) (hy0 : 0 ≤ y) (hy1 : y ≤ 9223372036854775807) (hr : (⟨u, s⟩ : Rec).I) : Calls Tryd.prog 42 #[.pointer (some ⟨b, 0, none⟩), .agg #[.int .i64 u, .int .i64 s]] w0 fun e w' => e = .returned (.bool (Ix23.fitB x y ⟨u, s⟩)) ∧ (Ix23.fitB x y ⟨u, s⟩ = true → Sms w' b (x + Ix23.pad u) (y + s)) ∧ Chg (fun k => k = b) w0 w' := by
  obtain ⟨iu, is⟩ := hr
  simp only at iu is
  have hlt := lt_of_blk h
  have cA := chg_one w0 (.cells #[.int .i64 u, .int .i64 s] 43)
  have bA := heap_alloc_last w0 (.cells #[.int .i64 u, .int .i64 s] 43)
  have hA := h.keep cA (fun f => f)
  have m0 : (w0.alloc (.cells #[.int .i64 u, .int .i64 s] 43)).cell? ⟨w0.heap.size, 0, none⟩ = some (.int .i64 u) := cell0 bA
  have HU : Hid _ := takeU_any b x y u (w0.alloc (.cells #[.int .i64 u, .int .i64 s] 43)) hA hx0 hx1 iu
  have HP : Hid (∀ x2 w, Sms w b x2 y → Calls Tryd.prog 56 #[.pointer (some ⟨b, 0, none⟩), .int .i64 s] w fun e w' => e = .returned (.bool (fitP y s)) ∧ Sms w' b x2 (if fitP y s = true then y + s else y) ∧ Chg (fun k => k = b) w w') := fun x2 w hw => takeP_any b x2 y s w hw hy0 hy1 is
  have HA : Hid (Chg (fun _ => False) w0 (w0.alloc (.cells #[.int .i64 u, .int .i64 s] 43)) ∧ (w0.alloc (.cells #[.int .i64 u, .int .i64 s] 43)).heap[w0.heap.size]? = some (.cells #[.int .i64 u, .int .i64 s] 43 (0, 0)) ∧ b < w0.heap.size) := ⟨cA, bA, hlt⟩
  rw [fitB_two]
  clear h hlt cA bA hA
  generalize fitU x u = ou at *
  generalize fitP y s = op at *
  go_enter Tryd.func42, Tryd.ntmps42
  go_wp2_with fail
  refine Calls.mono HU.out ?_
  rintro z w2 ⟨rfl, h2, c2⟩
  cases ou
  · have HC : Hid (Chg (fun k => k = b) w0 w2) := (HA.out.1.mono (fun _ f => f.elim)).trans c2 (fun k e => .inl e)
    clear h2 c2 HU HP HA m0
    go_wp2
    go_ret
    exact ⟨rfl, fun f => (by simp at f), HC.out⟩
  · have HC : Hid (Chg (fun k => k = b) w0 w2) := (HA.out.1.mono (fun _ f => f.elim)).trans c2 (fun k e => .inl e)
    have m1 : w2.cell? ⟨w0.heap.size, 1, none⟩ = some (.int .i64 s) := cell1 (blk_keep HA.out.2.1 c2 (fun f => by have := HA.out.2.2; omega))
    have HX : Hid _ := HP.out _ w2 h2
    clear h2 c2 HU HP m0
    go_wp2_with fail
    refine Calls.mono HX.out ?_
    rintro z w3 ⟨rfl, h3, c3⟩
    have H3 : Hid _ := h3
    have HC3 : Hid (Chg (fun k => k = b) w0 w3) := HC.out.trans c3 (fun k e => .inl e)
    clear h3 c3 HX m1 HC
    go_wp2
    go_ret
    refine ⟨by cases op <;> rfl, fun f => ?_, HC3.out⟩
    have f2 : op = true := by simpa using f
    subst f2
    exact H3.out
end Go.Proofs.YtehfcfpbjenmjaaDoor
