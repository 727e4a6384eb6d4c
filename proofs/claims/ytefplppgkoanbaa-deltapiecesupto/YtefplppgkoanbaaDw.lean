/- Lists that are lent with a mark behind them; of no statement by themselves. -/
import Derived.Test.YtefplppgkoanbaaDv
import Derived.Test.YtefplppgkoanbaaKeep3
namespace Go.Proofs.Ytefplppgkoanbaa
open Go.RowKit
set_option linter.unusedVariables false
set_option linter.unusedSimpArgs false
set_option maxHeartbeats 4000000 in
theorem lent_any (ad : Option Addr) (n c : Nat) (bs : List Nat) (w : World) (hr : Row8 w ad n c (nums bs)) (hn : n ≤ 140737488351232) : Calls Try.prog 15 #[.slice ad n c] w fun e w' => ∃ fa fc, e = .returned (.tuple #[.slice fa n fc, .slice fa (n + 1) fc]) ∧ ByO w' w.heap.size (.slice fa (n + 1) fc) (bs ++ [165]) ∧ n + 1 ≤ fc ∧ Chg (fun _ => False) w w' := by
  obtain ⟨iu, hiu, hu0, hu1, hu2⟩ := info_parts info5u
  have hbl : bs.length = n := by have h9 := hr.1; rw [nums_len] at h9; exact h9
  have HBL : Hid (bs.length = n) := hbl
  have cA := chg_one w (.cells #[] 5)
  have hE := own_empty w 5
  have hr1 := row8_keep hr cA (fun _ _ f => f)
  have hni : (n : Int) ≤ 140737488351232 := by omega
  clear hr hbl
  go_enter Try.func15, Try.ntmps15
  go_wp2_with (at_builtin; refine wpList_append_moved rfl (.tmp 5) (.tmp 6) 22 rfl w.heap.size 5 iu (.int .u8 0) 1 1 Try.underlying22 hiu hu0 hu1 hu2 rfl (by decide) _ 0 [] rfl ad n c rfl ((nums bs).map (Value.int .u8)) hE hr1.src (oneB bs) (by unfold maxLen; omega) (by omega) (by simp) ?_)
  intro v1 w1 ho1 hg1 _
  have hc1 : Chg (fun _ => False) w w1 := cA.grown hg1 (fun j e => .inr (by simp [Value.ownBlock] at e; omega))
  obtain ⟨a1, d1, rfl⟩ := form1 ho1
  have cB := chg_one w1 (.cells #[.int .u8 165] 5)
  have ho1' := ownsRow_keep ho1 cB (fun _ _ f => f)
  have hs1 := Nat.le_trans hc1.size cB.size
  have hrow := Bk.row8_one w1 165 5
  clear hE hr1 hg1 cA
  go_wp2_with (at_builtin; refine wpList_append_moved rfl (.tmp 8) (.tmp 9) 22 rfl w.heap.size 5 iu (.int .u8 0) 1 1 Try.underlying22 hiu hu0 hu1 hu2 rfl (by decide) _ n ((nums bs).map (Value.int .u8)) rfl (some ⟨w1.heap.size, 0, none⟩) 1 1 rfl ((nums [165]).map (Value.int .u8)) ho1' hrow.src (oneB [165]) (by unfold maxLen; omega) (by omega) hs1 ?_)
  intro v2 w2 ho2 hg2 _
  have hby := byO_app ho2
  have hc2 : Chg (fun _ => False) w w2 := (hc1.alloc _).grown hg2 (fun j e => .inr ((ho1.lt j e).1))
  obtain ⟨fa, fc, rfl⟩ := form1 ho2
  have hcap := own_cap ho2
  have HBY : Hid (ByO w2 w.heap.size (.slice fa (n + 1) fc) (bs ++ [165])) := hby
  have hcut := run_cutZ_hi (E := 5) (size := 1) undBy elemBy sizeBy fa (n + 1) fc n w2 (by omega)
  clear ho2 hg2 hby ho1 ho1' hrow cB hs1 hc1
  go_wp2
  go_ret2
  exact ⟨_, _, rfl, HBY.out, hcap, hc2⟩
theorem row8_front {w : World} {B : Nat} {fa : Option Addr} {n fc : Nat} {bs : List Nat} (h : ByO w B (.slice fa (n + 1) fc) (bs ++ [165])) : Row8 w fa n fc (nums bs) := by
  obtain ⟨h1, hl, _⟩ := byO_row h
  have hb : bs.length = n := by simpa using hl
  have := row8_take h1 (i := n) (by omega)
  rw [List.take_left' hb] at this
  exact this
set_option maxHeartbeats 4000000 in
theorem kept_q (B : Nat) (fa : Option Addr) (n fc : Nat) (bs : List Nat) (ad : Option Addr) (c : Nat) (w : World) (hf : ByO w B (.slice fa (n + 1) fc) (bs ++ [165])) (hr : Row8 w ad n c (nums bs)) (hn : n ≤ 140737488351232) : Calls Try.prog 17 #[.slice fa (n + 1) fc, .slice ad n c] w fun e w' => e = .returned (.bool true) ∧ Chg (fun _ => False) w w' := by
  have hbl : bs.length = n := by have h9 := hr.1; rw [nums_len] at h9; exact h9
  have hni : (n : Int) ≤ 140737488351232 := by omega
  have hfr := row8_front hf
  have hf2 := hf
  unfold ByO at hf2
  have hle1 : (bs ++ [165] : List Nat).length = n + 1 := by simp [hbl]
  rw [hle1] at hf2
  obtain ⟨g, c', e, hcap, _, _, _, _, _⟩ := own_some hf2 (by omega)
  simp only [Value.slice.injEq] at e
  have e1 := e.1
  subst e1
  have km : w.cell? ⟨g, n, none⟩ = some (.int .u8 165) := by
    rw [hf2.cellAt n (by omega), ins_at _ _ _ (by simp [nums, hbl])]
    simp [nums, hbl]
  have q1 : ∀ nq, (convert 22 9 (.slice (some ⟨g, 0, none⟩) n fc)).run Try.prog (w.drewN nq) = .ok (.string (strOfNums (nums bs))) (w.drewN nq) := fun nq => Bk.conv8 hfr nq
  have q2 : ∀ nq, (convert 22 9 (.slice ad n c)).run Try.prog (w.drewN nq) = .ok (.string (strOfNums (nums bs))) (w.drewN nq) := fun nq => Bk.conv8 hr nq
  have hfc : n + 1 ≤ fc := own_cap hf2
  have hfci : (n : Int) ≤ (fc : Int) := by omega
  have hlt : (n : Int) < (n : Int) + 1 := by omega
  generalize strOfNums (nums bs) = s at *
  clear hf hr hfr hf2 e hbl hcap
  go_enter Try.func17, Try.ntmps17
  go_wp2_with fail
  go_quiet (fail)
  go_wp2
  go_ret
  exact ⟨rfl, chg_drewN _ _⟩
theorem byO_setD {w : World} {B g n c : Nat} {bs : List Nat} (h : ByO w B (.slice (some ⟨g, 0, none⟩) n c) bs) {q : Nat} (hq : q < n) (x : Nat) : ByO (w.setCell ⟨g, q, none⟩ (.int .u8 (x : Int))) B (.slice (some ⟨g, 0, none⟩) n c) (bs.set q x) := by
  obtain ⟨_, hl, _⟩ := byO_row h
  unfold ByO at h ⊢
  rw [List.length_set]
  rw [hl] at h ⊢
  have := own_set h q (.int .u8 (x : Int)) hq
  rw [ins_set] at this
  rw [show nums (bs.set q x) = (nums bs).set q (x : Int) by simp [nums, List.map_set]]
  exact this
theorem byO_cellD {w : World} {B g n c : Nat} {bs : List Nat} (h : ByO w B (.slice (some ⟨g, 0, none⟩) n c) bs) {q : Nat} (hq : q < n) : ∃ y : Nat, w.cell? ⟨g, q, none⟩ = some (.int .u8 (y : Int)) ∧ w.frozen? ⟨g, q, none⟩ = false := by
  obtain ⟨_, hl, _⟩ := byO_row h
  have h2 := h
  unfold ByO at h2
  rw [hl] at h2
  obtain ⟨g', c', e3, _, _, _, _, hfr, _⟩ := own_some h2 (by omega)
  simp only [Value.slice.injEq, Option.some.injEq, Addr.mk.injEq] at e3
  obtain ⟨⟨rfl, _⟩, _, rfl⟩ := e3
  refine ⟨bs[q]'(by omega), ?_, hfr q⟩
  rw [h2.cellAt q (by omega), ins_at _ _ _ (by rw [nums_len]; omega)]
  simp [nums]
end Go.Proofs.Ytefplppgkoanbaa
