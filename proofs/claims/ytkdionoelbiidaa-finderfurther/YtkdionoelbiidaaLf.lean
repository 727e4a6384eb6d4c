/- The finder's Skip; of no statement by itself. -/
import Derived.Test.YtkdionoelbiidaaLe
namespace Go.Proofs.Ytkdionoelbiidaa
open Go.RowKit
set_option linter.unusedVariables false
set_option linter.unusedSimpArgs false

set_option maxHeartbeats 4000000 in
set_option maxRecDepth 100000 in
theorem skip_any (γ : Gh) (B a : Nat) (d : List Nat) (n p k : Nat) (w : World) (h : Fi γ w B a d n p) (hB : B ≤ w.heap.size) (hk : p + k ≤ d.length) : Calls Try.prog 13 #[.pointer (some ⟨a, 0, none⟩), .int .i64 (k : Int)] w fun e w' => e = .returned (.int .i64 0) ∧ ∃ γ', Fwd gle gfoot γ γ' w w' ∧ Fi γ' w' B a d n (p + k) := by
  obtain ⟨L, hL⟩ : ∃ L, d.length = L := ⟨_, rfl⟩
  have HDL : Hid (d.length = L) := hL
  obtain ⟨hn1, hn2, _, hLb⟩ := h.num
  have hbk := h.blk'
  rw [hL] at hk hLb hbk
  have hpi : (p : Int) ≤ 140737488355328 := by omega
  have hLi : (L : Int) ≤ 140737488355328 := by omega
  have hki : (k : Int) ≤ 140737488355328 := by omega
  have hni : (n : Int) ≤ 4294967295 := by omega
  have HLF : Hid _ := left_q a γ.da L γ.dc p _ _ w hbk (by omega) hLb
  obtain ⟨E, hE⟩ : ∃ E, L - p = E := ⟨_, rfl⟩
  rw [hE] at HLF
  have hEi : (E : Int) ≤ 140737488355328 := by omega
  have hg0 : decide ((k : Int) < 0) = false := decide_eq_false (by omega)
  have hg1 : decide ((E : Int) < (k : Int)) = false := by simp; omega
  have hg1' : decide (E < k) = false := by simp; omega
  obtain ⟨t, ht⟩ : ∃ t, p + k = t := ⟨_, rfl⟩
  have hti : (p : Int) + (k : Int) = (t : Int) := by omega
  have htb : (t : Int) ≤ 140737488355328 := by omega
  have hwr : IntKind.i64.wrap ((t : Int) - (n : Int)) = (t : Int) - (n : Int) := by
    simp [IntKind.wrap, IntKind.signed, IntKind.bits]
    omega
  obtain ⟨q0, hq0⟩ : ∃ q0, max p (t - n) = q0 := ⟨_, rfl⟩
  have HMX : Hid (∀ ww : World, (Builtin.max_ #[3, 3] 3 #[.int .i64 (p : Int), .int .i64 ((t : Int) - (n : Int))]).run Try.prog ww = .ok (.int .i64 (q0 : Int)) ww) := fun ww => by
    rw [max2, show max (p : Int) ((t : Int) - (n : Int)) = (q0 : Int) by omega]
  have hq0t : q0 ≤ t := by omega
  have HLO : Hid (t - n ≤ q0) := by show _ ≤ _; omega
  have HF : Hid (FinC γ w B a d n p (t - n) q0) := by have := h.begin (p' := t) (by omega); rw [hq0] at this; exact this
  have HBS : Hid (B ≤ w.heap.size) := hB
  have HTL : Hid (t ≤ L) := by show _ ≤ _; omega
  have hq0i : (q0 : Int) ≤ 140737488355328 := by omega
  rw [ht]
  clear h hL hE hbk ht hq0
  go_enter Try.func13, Try.ntmps13
  go_wp2_with fail
  refine Calls.mono HLF.out ?_
  rintro z w1 ⟨rfl, k1, rfl⟩
  have cD := chg_drewN w k1
  obtain ⟨kc0, kc1, kc2, kc3, _⟩ := cells4 HF.out.blk'
  clear HLF
  go_wp2_with fail
  have hmx := HMX.out
  go_quiet (fail)
  clear hmx HMX kc0 kc1 kc2 kc3 hwr
  go_wp2_with fail
  go_loopw [6] (fun v wr => ∃ (q : Nat) (γ' : Gh), q0 ≤ q ∧ q ≤ t ∧ v = .int .i64 (q : Int) ∧ Hid (Fwd gle gfoot γ γ' w wr) ∧ Hid (FinC γ' wr B a d n p (t - n) q)) (fun v _ => t - (intOf v).toNat)
  case atStart => exact ⟨q0, γ, Nat.le_refl _, hq0t, rfl, (Fwd.new cD).trans (Fwd.new (chg_drewN _ _)), (HF.out.keep cD (fun _ _ f => f)).keep (chg_drewN _ _) (fun _ _ f => f)⟩
  case round =>
    clear HF cD
    obtain ⟨q, γ2, hq1, hq2, rfl, HW, HF⟩ := hrel
    have hqi : (q : Int) ≤ 140737488355328 := by omega
    by_cases hqt : q < t
    · have hd1 : decide (q < t) = true := decide_eq_true hqt
      have hd1' : decide ((q : Int) < (t : Int)) = true := by simp; omega
      have HN : Hid _ := note_any γ2 B a d n p (t - n) q wr HF.out (Nat.le_trans HBS.out HW.out.chg.size) (by have := HLO.out; omega) (by have := HDL.out; have := HTL.out; omega)
      go_wp2_with fail
      refine Calls.mono HN.out ?_
      rintro z w2 ⟨⟨v, rfl⟩, γ3, hW3, hF3⟩
      have HW3 : Hid (Fwd gle gfoot γ γ3 w w2) := HW.out.trans hW3
      have HF3 : Hid (FinC γ3 w2 B a d n p (t - n) (q + 1)) := hF3
      clear HN hW3 hF3 HW HF
      go_wp2_with fail
      go_roundw
      case rel => exact ⟨q + 1, γ3, by omega, by omega, by go_num, HW3.out, HF3.out⟩
      case measure => simp [intOf]; omega
    · have hd1 : decide (q < t) = false := decide_eq_false hqt
      have hd1' : decide ((q : Int) < (t : Int)) = false := by simp; omega
      obtain rfl : q = t := by omega
      have hset : (wr.setCell ⟨a, 2, none⟩ (.int .i64 (q : Int))).heap[a]? = some (.cells (CsT γ2 d.length n q) 60 (0, 0)) := set_cell _ HF.out.blk
      have HS : Hid _ := HF.out.settle (by have := HDL.out; have := HTL.out; omega) hset ((Chg.refl (fun z => z = a) wr).setCell (p := ⟨a, 2, none⟩) (.inl rfl) _)
      obtain ⟨_, _, kc2, _, kf2⟩ := cells4 HF.out.blk'
      clear hset
      go_wp2
      go_ret
      exact ⟨rfl, γ2, HW.out.trans HS.out.2, HS.out.1⟩
set_option maxHeartbeats 1000000 in
theorem skip_out (γ : Gh) (B a : Nat) (d : List Nat) (n p : Nat) (k : Int) (w : World) (h : Fi γ w B a d n p) (hk : I64 k) (ho : k < 0 ∨ ((d.length - p : Nat) : Int) < k) : Calls Try.prog 13 #[.pointer (some ⟨a, 0, none⟩), .int .i64 k] w fun e w' => e = .returned (.int .i64 7) ∧ Chg (fun _ => False) w w' := by
  by_cases h0 : k < 0
  · have hg0 : decide (k < 0) = true := decide_eq_true h0
    clear h ho
    go_enter Try.func13, Try.ntmps13
    go_wp2
    go_ret
    exact ⟨rfl, Chg.refl _ _⟩
  · have hg0 : decide (k < 0) = false := decide_eq_false h0
    obtain ⟨E, hE⟩ : ∃ E, d.length - p = E := ⟨_, rfl⟩
    have HLF : Hid _ := left_q a γ.da d.length γ.dc p _ _ w h.blk' h.num.2.2.1 h.num.2.2.2
    rw [hE] at HLF ho
    have hg1 : decide ((E : Int) < k) = true := decide_eq_true (by omega)
    clear h ho hE
    go_enter Try.func13, Try.ntmps13
    go_wp2_with fail
    refine Calls.mono HLF.out ?_
    rintro z w1 ⟨rfl, k1, rfl⟩
    clear HLF
    go_wp2
    go_ret
    exact ⟨rfl, chg_drewN _ _⟩
end Go.Proofs.Ytkdionoelbiidaa
