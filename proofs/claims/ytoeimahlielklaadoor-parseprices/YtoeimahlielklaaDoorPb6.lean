/- The document's Price and Prices; of no statement by itself. -/
import Derived.Test.YtoeimahlielklaaDoorPa6
namespace Go.Proofs.YtoeimahlielklaaDoor
open Go.RowKit
open St12
set_option linter.unusedVariables false
set_option linter.unusedSimpArgs false
set_option maxHeartbeats 4000000 in
set_option maxRecDepth 100000 in
theorem rprice_any (k yb yl yd : Int) (hI : (⟨k, yb, yl, yd⟩ : Sym).I) (w : World) : Calls Tryd.prog 8 #[.agg #[.int .i64 k, .int .u8 yb, .int .i64 yl, .int .i64 yd]] w fun e w' => e = .returned (.tuple #[.int .i64 (priceA ⟨k, yb, yl, yd⟩).1, .int .i64 (priceA ⟨k, yb, yl, yd⟩).2]) ∧ Chg (fun _ => False) w w' := by
  have cA := chg_one w (.cells #[.int .i64 k, .int .u8 yb, .int .i64 yl, .int .i64 yd] 24)
  have hbA := heap_alloc_last w (.cells #[.int .i64 k, .int .u8 yb, .int .i64 yl, .int .i64 yd] 24)
  obtain ⟨m0, m1, m2, m3⟩ := cells4y hbA
  have HFO : Hid _ := rformed_q k yb yl yd hI.k hI.l hI.d (w.alloc (.cells #[.int .i64 k, .int .u8 yb, .int .i64 yl, .int .i64 yd] 24))
  have HCA : Hid (Chg (fun _ => False) w (w.alloc (.cells #[.int .i64 k, .int .u8 yb, .int .i64 yl, .int .i64 yd] 24))) := cA
  have HBA : Hid ((w.alloc (.cells #[.int .i64 k, .int .u8 yb, .int .i64 yl, .int .i64 yd] 24)).heap[w.heap.size]? = some (.cells #[.int .i64 k, .int .u8 yb, .int .i64 yl, .int .i64 yd] 24 (0, 0))) := hbA
  have HII : Hid ((⟨k, yb, yl, yd⟩ : Sym).I) := hI
  clear hI cA hbA
  go_enter Tryd.func8, Tryd.ntmps8
  go_wp2_with fail
  refine Calls.mono HFO.out ?_
  rintro z w1 ⟨rfl, c1⟩
  have HC1 : Hid (Chg (fun _ => False) w w1) := chg_then HCA.out c1
  obtain ⟨n0, n1, n2, n3⟩ := cells4y (blk_keep HBA.out c1 (fun f => f))
  by_cases hf : formed ⟨k, yb, yl, yd⟩ = 0
  rotate_left
  · have HA : Hid (priceA ⟨k, yb, yl, yd⟩ = (0, formed ⟨k, yb, yl, yd⟩)) := by show _ = _; unfold priceA; rw [if_pos hf]
    generalize formed ⟨k, yb, yl, yd⟩ = er at *
    have d0 : (er != 0) = true := by simp [hf]
    have d0' : (er == 0) = false := by simp [hf]
    clear hf
    go_wp2
    go_ret2
    exact ⟨by rw [HA.out]; rfl, HC1.out⟩
  · have HK : Hid _ := formed_kind hf
    have HF : Hid (formed ⟨k, yb, yl, yd⟩ = 0) := hf
    rw [hf]
    clear hf c1 HFO m0 m1 m2 m3
    by_cases k1 : k = 1
    · subst k1
      have HA : Hid (priceA ⟨1, yb, yl, yd⟩ = (9, 0)) := by show _ = _; unfold priceA; rw [if_neg (by simp [HF.out])]; simp
      go_wp2
      go_ret2
      exact ⟨by rw [HA.out]; rfl, HC1.out⟩
    · have d1 : (k == 1) = false := by simp [k1]
      by_cases k4 : k = 4
      · subst k4
        have HA : Hid (priceA ⟨4, yb, yl, yd⟩ = (4, 0)) := by show _ = _; unfold priceA; rw [if_neg (by simp [HF.out])]; simp
        clear k1 d1
        go_wp2
        go_ret2
        exact ⟨by rw [HA.out]; rfl, HC1.out⟩
      · have d4 : (k == 4) = false := by simp [k4]
        by_cases k3 : k = 3
        · subst k3
          have hb3 : 2 ≤ yl ∧ yl ≤ 273 ∧ 0 ≤ yd ∧ yd ≤ 3 := by have h9 := HK.out; simp at h9; omega
          have hlb := long_bound yl
          by_cases hd2 : yd < 2
          · have HA : Hid (priceA ⟨3, yb, yl, yd⟩ = (4 + longA yl, 0)) := by show _ = _; unfold priceA; rw [if_neg (by simp [HF.out])]; simp [hd2]
            have d5 : decide (yd < 2) = true := decide_eq_true hd2
            have HLQ : Hid _ := rlong16_q yl w1
            generalize longA yl = ll at *
            clear k1 d1 k4 d4
            go_wp2_with fail
            refine Calls.mono HLQ.out ?_
            rintro z w2 ⟨rfl, rfl⟩
            clear HLQ
            go_wp2
            go_ret2
            exact ⟨by rw [HA.out]; rfl, HC1.out⟩
          · have HA : Hid (priceA ⟨3, yb, yl, yd⟩ = (5 + longA yl, 0)) := by show _ = _; unfold priceA; rw [if_neg (by simp [HF.out])]; simp [hd2]
            have d5 : decide (yd < 2) = false := decide_eq_false hd2
            have HLQ : Hid _ := rlong16_q yl w1
            generalize longA yl = ll at *
            clear k1 d1 k4 d4
            go_wp2_with fail
            refine Calls.mono HLQ.out ?_
            rintro z w2 ⟨rfl, rfl⟩
            clear HLQ
            go_wp2
            go_ret2
            exact ⟨by rw [HA.out]; rfl, HC1.out⟩
        · have d3 : (k == 3) = false := by simp [k3]
          have hb2 : 1 ≤ yd ∧ yd ≤ 4294967295 := by have h9 := HK.out; simp at h9; omega
          have hlb := long_bound yl
          have hbb := bits_bound hb2.1 hb2.2
          have HA : Hid (priceA ⟨k, yb, yl, yd⟩ = (8 + longA yl + bitsA yd, 0)) := by show _ = _; unfold priceA; rw [if_neg (by simp [HF.out])]; simp [k1, k3, k4]
          have HLQ : Hid (∀ ww, Calls Tryd.prog 13 #[.int .i64 yl] ww fun e w' => e = .returned (.int .i64 (longA yl)) ∧ w' = ww) := rlong16_q yl
          have HBQ : Hid (∀ ww, Calls Tryd.prog 14 #[.int .i64 yd] ww fun e w' => e = .returned (.int .i64 (bitsA yd)) ∧ w' = ww) := fun ww => by
            have h9 := rbits16_q yd.toNat (by omega) (by omega) ww
            rw [show ((yd.toNat : Nat) : Int) = yd by omega] at h9
            exact h9
          generalize longA yl = ll at *
          generalize bitsA yd = bb at *
          clear k1 k3 k4 HK HII HF
          go_upto_region 13 with fail
          go_quiet (first | (go_at_call 13; exact Calls.quiet_of_same (HLQ.out _)) | (go_at_call 14; exact Calls.quiet_of_same (HBQ.out _)))
          go_wp2
          go_ret2
          exact ⟨by rw [HA.out]; rfl, chg_then HC1.out (chg_drewN _ nq)⟩
end Go.Proofs.YtoeimahlielklaaDoor
