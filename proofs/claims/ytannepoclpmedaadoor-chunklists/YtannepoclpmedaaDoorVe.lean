/- The program's properties of a byte; of no statement by itself. -/
import Derived.Test.YtannepoclpmedaaDoorVd
namespace Go.Proofs.YtannepoclpmedaaDoor
open Go.RowKit
open St12
set_option linter.unusedVariables false
set_option linter.unusedSimpArgs false

set_option maxHeartbeats 4000000 in
set_option maxRecDepth 100000 in
theorem tbp_any (b : Int) (hb : I64 b) (w : World) : Calls Tryd.prog 43 #[.int .i64 b] w fun e w' => e = .returned (.tuple #[prv (propsB b).1, .int .i64 (propsB b).2]) ∧ Chg (fun _ => False) w w' := by
  have cB := chg_one w (.cells #[.int .i64 0, .int .i64 0, .int .i64 0] 23)
  have hbk := heap_alloc_last w (.cells #[.int .i64 0, .int .i64 0, .int .i64 0] 23)
  by_cases h : 0 ≤ b ∧ b ≤ 255
  · have hd1 : decide (b < 0) = false := decide_eq_false (by omega)
    have hd2 : decide (255 < b) = false := decide_eq_false (by omega)
    have hb0 := h.1
    have hb1 := h.2
    have e3 : b / 9 / 5 = b / 45 := by omega
    have HA : Hid (∀ ww, Calls Tryd.prog 45 #[.agg #[.int .i64 (b % 9), .int .i64 (b / 9 % 5), .int .i64 (b / 45)]] ww fun e w' => e = .returned (.bool (decide (allow (told b)))) ∧ Chg (fun _ => False) ww w') := fun ww => tallowed_q (b % 9) (b / 9 % 5) (b / 45) ⟨by omega, by omega⟩ ⟨by omega, by omega⟩ ⟨by omega, by omega⟩ ww
    have HP : Hid (propsB b = if allow (told b) then (told b, 0) else (⟨0, 0, 0⟩, 2)) := by show _ = _; unfold propsB; rw [if_neg (not_not_intro h)]
    have cB2 := chg_one (w.alloc (.cells #[.int .i64 0, .int .i64 0, .int .i64 0] 23)) (.cells #[.int .i64 (b % 9), .int .i64 (b / 9 % 5), .int .i64 (b / 45)] 23)
    have hp2 := heap_alloc_last (w.alloc (.cells #[.int .i64 0, .int .i64 0, .int .i64 0] 23)) (.cells #[.int .i64 (b % 9), .int .i64 (b / 9 % 5), .int .i64 (b / 45)] 23)
    rw [World.size_alloc] at hp2
    have HB : Hid _ := blk_keep hbk cB2 (fun f => f)
    have HQ : Hid _ := hp2
    have HC : Hid _ := chg_then cB cB2
    clear h cB hbk cB2 hp2
    go_enter Tryd.func43, Tryd.ntmps43
    go_wp2_with fail
    generalize (w.alloc (.cells #[.int .i64 0, .int .i64 0, .int .i64 0] 23)).alloc (.cells #[.int .i64 (b % 9), .int .i64 (b / 9 % 5), .int .i64 (b / 45)] 23) = W at *
    refine (HA.out _).mono ?_
    rintro z w2 ⟨rfl, c2⟩
    have HB2 : Hid _ := blk_keep HB.out c2 (fun f => f)
    have HQ2 : Hid _ := blk_keep HQ.out c2 (fun f => f)
    have HC2 : Hid (Chg (fun _ => False) w w2) := chg_then HC.out c2
    clear c2 HA HB HQ HC
    by_cases hal : allow (told b)
    · rw [decide_eq_true hal]
      have HF : Hid (propsB b = (told b, 0)) := HP.out.trans (if_pos hal)
      obtain ⟨x0, x1, x2⟩ := cells3c HQ2.out
      obtain ⟨⟨k0, f0⟩, ⟨k1, f1⟩, ⟨k2, f2⟩, hend, cS⟩ := store3 HB2.out (.int .i64 (b % 9)) (.int .i64 (b / 9 % 5)) (.int .i64 (b / 45))
      have HE : Hid _ := cells3s hend
      have HCE : Hid (Chg (fun _ => False) w _) := HC2.out.trans cS (fun z e => .inr (by omega))
      clear hend cS hal
      go_wp2
      obtain ⟨q0, q1, q2, _⟩ := HE.out
      refine bodyPost_ret (v := .tuple #[.agg #[.int .i64 (b % 9), .int .i64 (b / 9 % 5), .int .i64 (b / 45)], .int .i64 0]) (by simp [results, Tryd.results43, go_sem, q0, q1, q2]) rfl ?_
      exact ⟨by rw [HF.out]; rfl, HCE.out⟩
    · rw [decide_eq_false hal]
      have HF : Hid (propsB b = (⟨0, 0, 0⟩, 2)) := HP.out.trans (if_neg hal)
      obtain ⟨⟨k0, f0⟩, ⟨k1, f1⟩, ⟨k2, f2⟩, hend, cS⟩ := store3 HB2.out (.int .i64 0) (.int .i64 0) (.int .i64 0)
      have HE : Hid _ := cells3s hend
      have HCE : Hid (Chg (fun _ => False) w _) := HC2.out.trans cS (fun z e => .inr (by omega))
      clear hend cS hal
      go_wp2
      obtain ⟨q0, q1, q2, _⟩ := HE.out
      refine bodyPost_ret (v := .tuple #[.agg #[.int .i64 0, .int .i64 0, .int .i64 0], .int .i64 2]) (by simp [results, Tryd.results43, go_sem, q0, q1, q2]) rfl ?_
      exact ⟨by rw [HF.out]; rfl, HCE.out⟩
  · have HF : Hid (propsB b = (⟨0, 0, 0⟩, 7)) := by
      show _ = _
      unfold propsB
      rw [if_pos h]
    obtain ⟨q0, q1, q2, f0, f1, f2⟩ := cells3s hbk
    by_cases h0 : b < 0
    · have hd1 : decide (b < 0) = true := decide_eq_true h0
      clear h
      go_enter Tryd.func43, Tryd.ntmps43
      go_wp2
      refine bodyPost_ret (v := .tuple #[.agg #[.int .i64 0, .int .i64 0, .int .i64 0], .int .i64 7]) (by simp [results, Tryd.results43, go_sem, q0, q1, q2]) rfl ?_
      exact ⟨by rw [HF.out]; rfl, cB⟩
    · have hd1 : decide (b < 0) = false := decide_eq_false h0
      have hd2 : decide (255 < b) = true := decide_eq_true (by omega)
      clear h
      go_enter Tryd.func43, Tryd.ntmps43
      go_wp2
      refine bodyPost_ret (v := .tuple #[.agg #[.int .i64 0, .int .i64 0, .int .i64 0], .int .i64 7]) (by simp [results, Tryd.results43, go_sem, q0, q1, q2]) rfl ?_
      exact ⟨by rw [HF.out]; rfl, cB⟩
end Go.Proofs.YtannepoclpmedaaDoor
