/- WireOrders holds: for every uint64 and every int handed to the statement's function the call returns true and the arguments read afterwards as they did; no condition. -/
import Derived.Test.YtgfibbabfpphpaaWidth
import Derived.WalkKit
import Derived.ProofKit
import Derived.OpenShut
import Derived.ShutString
import Derived.ChangeOld
import Derived.Below
namespace Go.Proofs.Ytgfibbabfpphpaa.wireOrders
open Go.ChangeShapes Go.WideShapes Go.ChangeAt Go.RowKit
open Go.ChangeMaps (open_string shut_string)
set_option linter.unusedVariables false

theorem own : ownKnob Try.prog.godebug = none := by kernel_rfl


set_option maxHeartbeats 2000000 in
theorem walk (a0 : Int) (a1 : Int) (w0 : (Lit.int .u64 a0).wf = true) (w1 : (Lit.int .i64 a1).wf = true) (w : World) :
    Calls Try.prog 5 #[.int .u64 a0, .int .i64 a1] w fun e w' => e = .returned (.bool true) ∧ Below w.heap.size w w' := by
  obtain ⟨b1, b2⟩ : -9223372036854775808 ≤ a1 ∧ a1 ≤ 9223372036854775807 := by simpa using bounds_i64 w1
  obtain ⟨h1, h2⟩ := wid_bd a1
  clear w0 w1
  go_enter Try.func5, Try.ntmps5
  go_wp2_with fail
  refine (width_any _ _ b1 b2).mono ?_
  rintro e w1 ⟨rfl, rfl⟩
  generalize wid a1 = n at *
  clear b1 b2
  go_wp2_with fail
  refine (newWriter_any _).mono ?_
  rintro e w1 ⟨rfl, rfl⟩
  have hw1 := newWr_at w.heap.size w (Nat.le_refl _)
  have hc1 : Chg (fun k => w.heap.size ≤ k) w (w.alloc (.cells #[.int .i64 0, .slice none 0 0] 75)) := chg_one _ _ _
  have hs1 : w.heap.size < (w.alloc (.cells #[.int .i64 0, .slice none 0 0] 75)).heap.size := hw1.lt
  generalize w.alloc (.cells #[.int .i64 0, .slice none 0 0] 75) = w1 at *
  go_wp2_with fail
  refine (newWriter_any _).mono ?_
  rintro e w2 ⟨rfl, rfl⟩
  have hx2 := newWr_at w.heap.size w1 (by omega)
  have hw2 := hw1.alloc (.cells #[.int .i64 0, .slice none 0 0] 75)
  have hc2 := hc1.alloc (.cells #[.int .i64 0, .slice none 0 0] 75)
  have hs2 : w1.heap.size < (w1.alloc (.cells #[.int .i64 0, .slice none 0 0] 75)).heap.size := hx2.lt
  generalize w1.alloc (.cells #[.int .i64 0, .slice none 0 0] 75) = w2 at *
  clear hw1 hc1
  go_wp2_with fail
  refine (low_yes w.heap.size w.heap.size _ _ a0 n _ hw2 (by omega) h1 h2 (by simp)).mono ?_
  rintro e w3 ⟨rfl, v3, hw3, hc3, hm3⟩
  have hx3 := hx2.keep hc3 (fun f => by have := foot_nil f; omega) (fun g e => by simp [Value.ownBlock] at e)
  have hC3 : Chg (fun k => w.heap.size ≤ k) w w3 := hc2.trans hc3 (fun k f => .inl (by have := foot_nil f; omega))
  have hg3 : ∀ g, v3.ownBlock = some g → w2.heap.size ≤ g := fun g e => moved_nil hm3 e
  have hs3 : w2.heap.size ≤ w3.heap.size := hc3.size
  clear hw2 hx2 hc2 hc3 hm3
  go_wp2_with fail
  refine (high_yes w.heap.size w1.heap.size _ _ a0 n _ hx3 (by omega) h1 h2 (by simp)).mono ?_
  rintro e w4 ⟨rfl, v4, hx4, hc4, hm4⟩
  have hw4 := hw3.keep hc4 (fun f => by have := foot_nil f; omega) (fun g e f => by have := hg3 g e; have := foot_nil f; omega)
  have hC4 : Chg (fun k => w.heap.size ≤ k) w w4 := hC3.trans hc4 (fun k f => .inl (by have := foot_nil f; omega))
  have hs4 : w3.heap.size ≤ w4.heap.size := hc4.size
  clear hw3 hx3 hC3 hc4 hm4 hg3
  rw [List.nil_append] at hw4 hx4
  go_wp2_with fail
  refine (bytes_any _ _ _ _ _ hw4 (by rw [lowBytes_length]; omega)).mono ?_
  rintro e w5 ⟨rfl, hq5, hc5⟩
  have hx5 := hx4.keep hc5 (fun f => f) (fun _ _ f => f)
  have hC5 := chg_then hC4 hc5
  have hs5 : w4.heap.size < w5.heap.size := lt_of_blk hq5
  rw [lowBytes_length]
  clear hw4 hx4 hC4 hc5
  go_wp2_with fail
  refine (bytes_any _ _ _ _ _ hx5 (by rw [highBytes_length]; omega)).mono ?_
  rintro e w6 ⟨rfl, hr6, hc6⟩
  have hq6 := blk_keep hq5 hc6 (fun f => f)
  have hC6 := chg_then hC5 hc6
  have hs6 : w5.heap.size < w6.heap.size := lt_of_blk hr6
  rw [highBytes_length]
  clear hx5 hC5 hc6 hq5
  have HQ : Hid (w6.heap[w4.heap.size]? = some (.cells (cells8 (lowBytes a0 n)).toArray 5 (0, 0))) := hq6
  have hqc : ∀ k, k < n → w6.cell? ⟨w4.heap.size, k, none⟩ = some (.int .u8 (a0 / 2 ^ (8 * k) % 256)) := fun k hk => by
    show _ = some (Value.int .u8 (byteAt a0 k))
    rw [blk_cell hq6 k (by rw [lowBytes_length]; exact hk)]; simp [lowBytes, List.getD, hk]
  have hrc : ∀ k, k < n → w6.cell? ⟨w5.heap.size, n - 1 - k, none⟩ = some (.int .u8 (a0 / 2 ^ (8 * k) % 256)) := fun k hk => by
    show _ = some (Value.int .u8 (byteAt a0 k))
    rw [blk_cell hr6 (n - 1 - k) (by rw [highBytes_length]; omega)]
    simp [highBytes, highTo, List.getD, show n - 1 - k < n by omega, show n - 1 - (n - 1 - k) = k by omega]
  clear hq6 hr6
  go_wp2_with fail
  go_loopw [10, 11] (fun b i wr => ∃ k : Nat, k ≤ n ∧ i = .int .i64 k ∧ b = .int .u64 (highNum ((lowBytes a0 n).take k)) ∧ ∃ q, wr = w6.drewN q) (fun _ i _ => n - (intOf i).toNat)
  case atStart => exact ⟨0, Nat.zero_le _, rfl, rfl, 0, rfl⟩
  case round =>
    obtain ⟨k, hk, rfl, rfl, q, rfl⟩ := hrel
    by_cases hlt : k < n
    · have hk1 := hqc k hlt
      have hk2 := hrc k hlt
      clear hqc hrc
      go_wp2_with fail
      go_quiet (fail)
      go_wp2
      go_roundw
      case rel => exact ⟨k + 1, by omega, by go_num, congrArg (Value.int .u64) (high_sum (lowBytes a0 n) (lowBytes8 _ _) k (by rw [lowBytes_length]; omega) (by omega) _ (by simp [lowBytes, byteAt])), _, rfl⟩
      case measure => simp [intOf]; omega
    · obtain rfl : k = n := by omega
      have ht : (lowBytes a0 k).take k = lowBytes a0 k := List.take_of_length_le (by rw [lowBytes_length]; omega)
      rw [ht]
      have hrow : Row8 (w6.drewN q) (some ⟨w4.heap.size, 0, none⟩) k k (lowBytes a0 k) := row8_blk (w := w6.drewN q) HQ.out k (lowBytes_length _ _) k
      have hC7 : Chg (fun k => w.heap.size ≤ k) w (w6.drewN q) := hC6.trans (chg_drewN (S := fun _ => False) w6 q) (fun _ f => f.elim)
      have hs7 : w.heap.size ≤ (w6.drewN q).heap.size := hC7.size
      clear hqc hrc ht hC6
      go_wp2_with fail
      refine (newReader_any w.heap.size _ _ _ _ _ hrow (by omega) hs7).mono ?_
      rintro e w8 ⟨ra, rfl, hr8, hc8, _⟩
      have hC8 := chg_then hC7 hc8
      clear hrow hC7 hc8
      go_wp2_with fail
      refine (rhigh_core _ _ _ _ _ (lowBytes a0 k) _ _ hr8 h1 h2 (by rw [lowBytes_length]; omega) (lowBytes8 _ _) (by show (List.take _ (List.drop 0 _)) = _; rw [List.drop_zero, List.take_of_length_le (by rw [lowBytes_length]; omega)])).mono ?_
      rintro e w9 ⟨rfl, hr9, hc9⟩
      have hC9 : Chg (fun k => w.heap.size ≤ k) w w9 := hC8.trans hc9 (fun i e => .inl (by subst e; exact hr8.loA))
      clear hr8 hr9 hc9 hC8
      go_wp2
      go_ret
      exact ⟨rfl, hC9.below (Nat.le_refl _) (fun k f => f)⟩

set_option maxRecDepth 100000 in
theorem lifted (os : Os) (started : os.Started) (H : Type) (enc : TypeId × Value → H) :
    ReturnsInHanded {} Try.checked os 5 .any (Rows.wireOrdersSpec.pre6 enc Try.prog Try.f5 Rows.wireOrdersRow.domain false) (Rows.wireOrdersSpec.post enc Try.prog Try.f5 false true false false) := by
  refine returnsInHanded_of_change (C := Try.checked) own started (by kernel_rfl) Try.func5
    (ChangeSpec.witness6 (enc := enc) (C := Try.checked) false ⟨#[], #[.int .u64 0, .int .i64 0], []⟩ 8 (by kernel_rfl) (by kernel_rfl) (by kernel_rfl) (by kernel_rfl)) ?_
  intro W base args ds gs before hval0 hW hcnd _
  have hval : ∀ (j : Nat) t v, Try.f5.params[j]? = some t → args[j]? = some v → Value.okWide Try.prog W .any base t v := hval0
  have hW' := hW
  obtain ⟨p, q, hA0, hV, rfl, hfz, hnd⟩ := hW
  have hA : DataW.TrodAll enc Try.prog W 0 (fun _ => true) true Try.f5.params.toList args.toList ds p := hA0
  rw [Try.params5] at hA hval
  obtain ⟨v0, vs0, d0, ds0, p0, q0, hargs, rfl, rfl, h0, r0⟩ := trodAll_cons hA
  obtain ⟨v1, vs1, d1, ds1, p1, q1, rfl, rfl, rfl, h1, r1⟩ := trodAll_cons r0
  obtain ⟨rfl, rfl, rfl⟩ := trodAll_nil r1
  obtain rfl : args = #[v0, v1] := by cases args; simp_all
  obtain ⟨rfl, rfl⟩ := trodVars_none hV
  obtain ⟨a0, rfl, rfl, rfl, w0⟩ := open_int Try.underlying34 (hval 0 34 v0 rfl rfl) h0
  obtain ⟨a1, rfl, rfl, rfl, w1⟩ := open_int Try.underlying3 (hval 1 3 v1 rfl rfl) h1
  clear hA0 hval0
  simp only [List.append_nil] at hW'
  refine (walk a0 a1 w0 w1 W).mono fun e W' ⟨he, bel⟩ => ?_
  subst he
  exact ⟨_, rfl, _, _, _, [], _, [], hW', trodAll_mk1 (shut_bool Try.underlying4 _), (trodAll_cons_mk (shut_int Try.underlying34 w0) (trodAll_cons_mk (shut_int Try.underlying3 w1) trodAll_mk0)), rfl, bel.frame _, fun h => by cases h⟩

theorem over : Rows.wireOrdersRow.holds Try.pinned (OpenSpec.ofChange Rows.wireOrdersSpec) :=
  OpenClaim.holds_of_wide 5 Try.f5 rfl rfl rfl rfl rfl rfl rfl ⟨rfl, rfl, rfl, rfl, rfl⟩ rfl rfl rfl rfl rfl (by kernel_rfl) Try.func5 (by kernel_rfl)
    (of_decide_eq_true (by kernel_rfl)) (by unfold Func.isWrapper; first | (rw [if_pos (by decide +kernel)]; kernel_rfl) | (rw [if_neg (by decide +kernel)]; exact ⟨rfl, rfl⟩))
    (fun os started H enc _ => lifted os started H enc)

theorem proved : Rows.WireOrdersSaid := over
end Go.Proofs.Ytgfibbabfpphpaa.wireOrders
namespace Go.Proofs.Ytgfibbabfpphpaa
theorem wireOrders_holds : Rows.WireOrdersSaid := wireOrders.proved
#print axioms wireOrders_holds
end Go.Proofs.Ytgfibbabfpphpaa
