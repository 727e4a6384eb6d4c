/- Two ways through the statement WireStays: the bytes that are asked for are all zero, or one of them is not; of no statement by themselves. -/
import Derived.Test.YtgfibbabfpphpaaStr
import Derived.WalkKit
import Derived.ProofKit
import Derived.OpenShut
import Derived.ShutString
import Derived.ChangeOld
import Derived.Below
import Derived.SizedLaws
namespace Go.Proofs.Ytgfibbabfpphpaa.wireStays
open Go.ChangeShapes Go.WideShapes Go.ChangeAt Go.RowKit
open Go.ChangeMaps (open_string shut_string)
set_option linter.unusedVariables false

set_option maxRecDepth 100000 in
set_option maxHeartbeats 2000000 in
theorem walk_zero (a0 : Option Addr) (len cap r : Nat) (xs : List Int) (a1 : Int) (n : Nat) (w : World) (hx : Row8 w a0 len cap xs) (hl : len ≤ cap) (hcap : cap ≤ 140737488351232) (hrl : r ≤ len) (hsel : a1 = (r : Int) ∨ a1 < 0 ∧ r = len ∨ (len : Int) < a1 ∧ r = len) (hn : r + n ≤ len) (ys : List Int) (HY : Hid ((xs.drop r).take n = ys)) (HZ : Hid (∀ k, k < n → ys.getD k 0 = 0)) :
    Calls Try.prog 3 #[.slice a0 len cap, .int .i64 a1, .int .i64 n] w fun e w' => e = .returned (.bool true) ∧ Below w.heap.size w w' := by
  obtain ⟨i0, hi, hz0, hz1, hz2⟩ := info_parts info5
  go_enter Try.func3, Try.ntmps3
  go_wp2_with (at_builtin; refine wpList_append_moved rfl (.tmp 16) (.tmp 17) 22 rfl w.heap.size 5 i0 (.int .u8 0) 1 1 Try.underlying22 hi hz0 hz1 hz2 rfl (by decide) _ 0 [] rfl a0 len cap rfl (xs.map (Value.int .u8)) (own_empty w) (row8_alloc hx _).src (oneCells _) (by unfold maxLen; omega) (by omega) (by simp) ?_)
  intro v1 w1 hown hg _
  have hc1 := chg_empty hg
  obtain ⟨ad1, c1, rfl, hr1⟩ := own_row8 hown
  have hs1 : w.heap.size ≤ w1.heap.size := hc1.size
  clear hown hg
  go_wp2_with fail
  refine (newReader_any w.heap.size _ _ _ xs _ hr1 (by omega) hs1).mono ?_
  rintro e w2 ⟨ra, rfl, hr2, hc2, _⟩
  have hC2 := chg_then hc1 hc2
  clear hr1 hc1 hc2 hs1
  go_wp2_with fail
  refine (left_i _ _ _ _ _ (len : Int) _ hr2 (by have := hx.1; omega)).mono ?_
  rintro e w3 ⟨rfl, q3, rfl⟩
  have hr3 := hr2.draw q3
  have hC3 : Chg (fun _ => False) w (w2.drewN q3) := chg_then hC2 (chg_drewN w2 q3)
  generalize w2.drewN q3 = w3 at *
  clear hr2 hC2
  have hxl := hx.1
  have hrc : r ≤ cap := by omega
  rcases hsel with rfl | ⟨hneg, rfl⟩ | ⟨hbig, rfl⟩
  all_goals
    go_wp2_with fail
    refine (take_ok _ _ _ _ _ r _ hr3 (by omega)).mono ?_
    rintro e w4 ⟨q4, rfl, _, hq4, hr4, hc4⟩
    have hC4 : Chg (fun k => w.heap.size ≤ k) w w4 := (chg_none hC3).trans hc4 (fun i e => .inl (by subst e; exact hr3.loA))
    have hx4 := row8_old hx hC4 (fun k h => by omega)
    rw [List.drop_zero] at hq4
    have hv4 := conv8 (row8_blk hq4 r (by simp; omega) r)
    have hu4 := conv8 (row8_take hx4 r (by omega))
    have hsl := fun k l => slice_to a0 l cap r hrc (w4.drewN k)
    clear hq4 hc4 hr3 hC3 hx4
    go_wp2_with fail
    go_quiet (fail)
    have hr5 := hr4.draw nq
    have hC5 : Chg (fun k => w.heap.size ≤ k) w (w4.drewN nq) := chg_then hC4 (chg_drewN w4 nq)
    rw [Nat.zero_add] at hr5
    clear hv4 hu4 hsl hr4 hC4
    generalize w4.drewN nq = w5 at *
    obtain ⟨ad5, had5⟩ : ∃ ad5, ad5 = (if cap = r then a0 else a0.map (·.add r)) := ⟨_, rfl⟩
    have hy5 : Row8 w5 ad5 n (cap - r) ys := by rw [had5, ← HY.out]; exact row8_cut (row8_old hx hC5 (fun k h => by omega)) hl r n (cap - r) (by omega) (fun e => by omega)
    have hs5 : ∀ l, (Instr.slice 22 (.slice a0 l cap) (some (.int .i64 (r : Int))) (some (.int .i64 ((r : Int) + (n : Int)))) none).run Try.prog w5 = .ok (.slice ad5 n (cap - r)) w5 := by rw [had5]; exact fun l => slice_mid a0 l cap r n (by omega) w5
    have hnn : decide ((n : Int) < 0) = false := by simp
    clear had5
    have hcell : 1 ≤ n → ∃ x, ad5 = some x ∧ ∀ k, k < n → w5.cell? (x.add k) = some (.int .u8 0) := fun hn => by
      obtain ⟨x, e, hx⟩ := row8_cells hy5 hn
      exact ⟨x, e, fun k hk => by rw [hx k hk, HZ.out k hk]⟩
    clear hy5 hx
    go_wp2_with fail
    go_loop [11, 67] (fun v i => ∃ k : Nat, k ≤ n ∧ i = .int .i64 k ∧ v = .int .i64 0) (fun _ i => n - (intOf i).toNat)
    case atStart => exact ⟨0, Nat.zero_le _, rfl, rfl⟩
    case round =>
      obtain ⟨k, hk, rfl, rfl⟩ := hrel
      by_cases hlt : k < n
      · obtain ⟨x, rfl, hxk⟩ := hcell (by omega)
        have hck := hxk k hlt
        clear hxk hcell hs5
        go_wp2
        go_round
        case rel => exact ⟨k + 1, by omega, by go_num, rfl⟩
        case measure => simp [intOf]; omega
      · obtain rfl : k = n := by omega
        clear hcell hs5
        go_wp2_with fail
        refine (rzeros_ok _ _ _ _ _ ys _ _ hr5 (by omega) HY HZ).mono ?_
        rintro e w6 ⟨rfl, hr6, hc6⟩
        have hC6 : Chg (fun k => w.heap.size ≤ k) w w6 := hC5.trans hc6 (fun i e => .inl (by subst e; exact hr5.loA))
        clear hr5 hc6 hC5
        go_wp2_with fail
        refine (off_i _ _ _ _ _ ((r : Int) + (k : Int)) _ hr6 (by omega)).mono ?_
        rintro e w7 ⟨rfl, rfl⟩
        go_wp2_with fail
        first | refine (left_i _ _ _ _ _ ((len : Int) - r - k) _ hr6 (by omega)).mono ?_ | refine (left_i _ _ _ _ _ (0 - (k : Int)) _ hr6 (by omega)).mono ?_
        rintro e w8 ⟨rfl, q8, rfl⟩
        have hC8 : Chg (fun k => w.heap.size ≤ k) w (w6.drewN q8) := chg_then hC6 (chg_drewN w6 q8)
        clear hr6 hC6
        go_wp2
        go_ret
        exact ⟨rfl, hC8.below (Nat.le_refl _) (fun k f => f)⟩

end Go.Proofs.Ytgfibbabfpphpaa.wireStays
