/- A way through the statement WireStays: one of the bytes that are asked for is not zero; of no statement by itself. -/
import Derived.Test.YtgfibbabfpphpaaStr
import Derived.WalkKit
import Derived.ProofKit
import Derived.OpenShut
import Derived.ShutString
import Derived.ChangeOld
import Derived.Below
import Derived.SizedLaws
namespace Go.Proofs.Ytgfibbabfpphpaa.wireStays
open Go.ChangeShapes Go.WideShapes Go.ChangeAt Go.RowKit
open Go.ChangeMaps (open_string shut_string)
set_option linter.unusedVariables false

set_option maxRecDepth 100000 in
set_option maxHeartbeats 2000000 in
theorem walk_bad (a0 : Option Addr) (len cap r : Nat) (xs : List Int) (a1 : Int) (n : Nat) (w : World) (hx : Row8 w a0 len cap xs) (hl : len ≤ cap) (hcap : cap ≤ 140737488351232) (hrl : r ≤ len) (hsel : a1 = (r : Int) ∨ a1 < 0 ∧ r = len ∨ (len : Int) < a1 ∧ r = len) (hn : r + n ≤ len) (ys : List Int) (HY : Hid ((xs.drop r).take n = ys)) (hyb : Bytes8 ys) (j : Nat) (z : Int) (hj : j < n) (HZ : Hid (∀ k, k < j → ys.getD k 0 = 0)) (HJ : Hid (ys.getD j 0 = z)) (hz : (z != 0) = true) :
    Calls Try.prog 3 #[.slice a0 len cap, .int .i64 a1, .int .i64 n] w fun e w' => e = .returned (.bool true) ∧ Below w.heap.size w w' := by
  obtain ⟨i0, hi, hz0, hz1, hz2⟩ := info_parts info5
  go_enter Try.func3, Try.ntmps3
  go_wp2_with (at_builtin; refine wpList_append_moved rfl (.tmp 16) (.tmp 17) 22 rfl w.heap.size 5 i0 (.int .u8 0) 1 1 Try.underlying22 hi hz0 hz1 hz2 rfl (by decide) _ 0 [] rfl a0 len cap rfl (xs.map (Value.int .u8)) (own_empty w) (row8_alloc hx _).src (oneCells _) (by unfold maxLen; omega) (by omega) (by simp) ?_)
  intro v1 w1 hown hg _
  have hc1 := chg_empty hg
  obtain ⟨ad1, c1, rfl, hr1⟩ := own_row8 hown
  have hs1 : w.heap.size ≤ w1.heap.size := hc1.size
  clear hown hg
  go_wp2_with fail
  refine (newReader_any w.heap.size _ _ _ xs _ hr1 (by omega) hs1).mono ?_
  rintro e w2 ⟨ra, rfl, hr2, hc2, _⟩
  have hC2 := chg_then hc1 hc2
  clear hr1 hc1 hc2 hs1
  go_wp2_with fail
  refine (left_i _ _ _ _ _ (len : Int) _ hr2 (by have := hx.1; omega)).mono ?_
  rintro e w3 ⟨rfl, q3, rfl⟩
  have hr3 := hr2.draw q3
  have hC3 : Chg (fun _ => False) w (w2.drewN q3) := chg_then hC2 (chg_drewN w2 q3)
  generalize w2.drewN q3 = w3 at *
  clear hr2 hC2
  have hxl := hx.1
  have hrc : r ≤ cap := by omega
  rcases hsel with rfl | ⟨hneg, rfl⟩ | ⟨hbig, rfl⟩
  rotate_left
  · omega
  · omega
  all_goals
    go_wp2_with fail
    refine (take_ok _ _ _ _ _ r _ hr3 (by omega)).mono ?_
    rintro e w4 ⟨q4, rfl, _, hq4, hr4, hc4⟩
    have hC4 : Chg (fun k => w.heap.size ≤ k) w w4 := (chg_none hC3).trans hc4 (fun i e => .inl (by subst e; exact hr3.loA))
    have hx4 := row8_old hx hC4 (fun k h => by omega)
    rw [List.drop_zero] at hq4
    have hv4 := conv8 (row8_blk hq4 r (by simp; omega) r)
    have hu4 := conv8 (row8_take hx4 r (by omega))
    have hsl := fun k l => slice_to a0 l cap r hrc (w4.drewN k)
    clear hq4 hc4 hr3 hC3 hx4
    go_wp2_with fail
    go_quiet (fail)
    have hr5 := hr4.draw nq
    have hC5 : Chg (fun k => w.heap.size ≤ k) w (w4.drewN nq) := chg_then hC4 (chg_drewN w4 nq)
    rw [Nat.zero_add] at hr5
    clear hv4 hu4 hsl hr4 hC4
    generalize w4.drewN nq = w5 at *
    obtain ⟨ad5, had5⟩ : ∃ ad5, ad5 = (if cap = r then a0 else a0.map (·.add r)) := ⟨_, rfl⟩
    have hy5 : Row8 w5 ad5 n (cap - r) ys := by rw [had5, ← HY.out]; exact row8_cut (row8_old hx hC5 (fun k h => by omega)) hl r n (cap - r) (by omega) (fun e => by omega)
    have hs5 : ∀ l, (Instr.slice 22 (.slice a0 l cap) (some (.int .i64 (r : Int))) (some (.int .i64 ((r : Int) + (n : Int)))) none).run Try.prog w5 = .ok (.slice ad5 n (cap - r)) w5 := by rw [had5]; exact fun l => slice_mid a0 l cap r n (by omega) w5
    have hnn : decide ((n : Int) < 0) = false := by simp
    clear had5
    obtain ⟨x, rfl, hxk⟩ := row8_cells hy5 (by omega)
    have hx0 : ∀ k, k < j → w5.cell? (x.add k) = some (.int .u8 0) := fun k hk => by rw [hxk k (by omega), HZ.out k hk]
    have hxj : w5.cell? (x.add j) = some (.int .u8 z) := by rw [hxk j hj, HJ.out]
    clear hy5
    go_wp2_with fail
    go_loop [11, 67] (fun v i => ∃ k : Nat, k ≤ n ∧ i = .int .i64 k ∧ (k ≤ j ∧ v = .int .i64 0 ∨ j < k ∧ v = .int .i64 2)) (fun _ i => n - (intOf i).toNat)
    case atStart => exact ⟨0, Nat.zero_le _, rfl, .inl ⟨Nat.zero_le _, rfl⟩⟩
    case round =>
      obtain ⟨k, hk, rfl, hv⟩ := hrel
      by_cases hlt : k < n
      · rcases hv with ⟨hkj, rfl⟩ | ⟨hkj, rfl⟩
        · by_cases hkj2 : k < j
          · have hck := hx0 k hkj2
            clear hxk hs5 hx0 hxj
            go_wp2
            go_round
            case rel => exact ⟨k + 1, by omega, by go_num, .inl ⟨by omega, rfl⟩⟩
            case measure => simp [intOf]; omega
          · obtain rfl : k = j := by omega
            clear hxk hs5 hx0
            go_wp2
            go_round
            case rel => exact ⟨k + 1, by omega, by go_num, .inr ⟨by omega, rfl⟩⟩
            case measure => simp [intOf]; omega
        · have hck := hxk k hlt
          clear hxk hs5 hx0 hxj
          generalize ys.getD k 0 = u at *
          go_wp2
          all_goals
            go_round
            case rel => exact ⟨k + 1, by omega, by go_num, .inr ⟨by omega, rfl⟩⟩
            case measure => simp [intOf]; omega
      · obtain rfl : k = n := by omega
        rcases hv with ⟨hkj, rfl⟩ | ⟨hkj, rfl⟩
        · omega
        clear hxk hs5 hx0 hxj
        go_wp2_with fail
        refine (rzeros_bad _ _ _ _ _ ys _ j z _ hr5 (by omega) HY hj HZ HJ hz).mono ?_
        rintro e w6 ⟨rfl, q6, rfl⟩
        have hr6 := hr5.draw q6
        have hC6 : Chg (fun k => w.heap.size ≤ k) w (w5.drewN q6) := chg_then hC5 (chg_drewN w5 q6)
        generalize w5.drewN q6 = w6 at *
        clear hr5 hC5
        go_wp2_with fail
        refine (off_any _ _ _ _ _ _ hr6).mono ?_
        rintro e w7 ⟨rfl, rfl⟩
        go_wp2_with fail
        first | refine (left_i _ _ _ _ _ ((len : Int) - r) _ hr6 (by omega)).mono ?_ | refine (left_i _ _ _ _ _ 0 _ hr6 (by omega)).mono ?_
        rintro e w7 ⟨rfl, q7, rfl⟩
        have hr7 := hr6.draw q7
        have hC7 : Chg (fun k => w.heap.size ≤ k) w (w6.drewN q7) := chg_then hC6 (chg_drewN w6 q7)
        generalize w6.drewN q7 = w7 at *
        clear hr6 hC6
        go_wp2_with fail
        refine (take_ok _ _ _ _ _ k _ hr7 (by omega)).mono ?_
        rintro e w8 ⟨q8, rfl, _, hq8, hr8, hc8⟩
        have hC8 : Chg (fun k => w.heap.size ≤ k) w w8 := hC7.trans hc8 (fun i e => .inl (by subst e; exact hr7.loA))
        have hx8 := row8_old hx hC8 (fun k h => by omega)
        have hv8 : ∀ q, (convert 22 9 (.slice (some ⟨q8, 0, none⟩) k k)).run Try.prog (w8.drewN q) = .ok (.string (strOfNums ys)) (w8.drewN q) := by
          rw [HY.out] at hq8
          exact conv8 (row8_blk hq8 k (by rw [← HY.out]; simp; omega) k)
        have hu8 : ∀ q, (convert 22 9 (.slice (a0.map (fun x => x.add r)) k (cap - r))).run Try.prog (w8.drewN q) = .ok (.string (strOfNums ys)) (w8.drewN q) := by
          have := row8_cut hx8 hl r k (cap - r) (by omega) (fun e => by omega)
          rw [if_neg (by omega), HY.out] at this
          exact conv8 this
        clear hq8 hc8 hr7 hC7 hr8 hx8
        go_wp2_with fail
        go_quiet (fail)
        go_wp2
        go_ret
        exact ⟨rfl, (chg_then hC8 (chg_drewN w8 _)).below (Nat.le_refl _) (fun k f => f)⟩

end Go.Proofs.Ytgfibbabfpphpaa.wireStays
