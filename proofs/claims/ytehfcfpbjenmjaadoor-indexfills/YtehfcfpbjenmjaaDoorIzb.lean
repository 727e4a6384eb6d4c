/- The landed index's look at a list; of no statement by itself. -/
import Derived.Test.YtehfcfpbjenmjaaDoorIza
namespace Go.Proofs.YtehfcfpbjenmjaaDoor
open Go.RowKit
set_option linter.unusedVariables false
set_option linter.unusedSimpArgs false
theorem right_next {l : List Rec} {k : Nat} {u s : Int} (hq : l[k]? = some ⟨u, s⟩) (hR : Ix23.rightB 0 0 (l.take k) = true) (hf : Ix23.fitB (Ix23.bsum (l.take k)) (Ix23.ssum (l.take k)) ⟨u, s⟩ = true) : Ix23.rightB 0 0 (l.take (k + 1)) = true ∧ Ix23.bsum (l.take (k + 1)) = Ix23.bsum (l.take k) + Ix23.pad u ∧ Ix23.ssum (l.take (k + 1)) = Ix23.ssum (l.take k) + s := by
  rw [take_last hq, Ix23.right_app, right_one, Ix23.bsum_app, Ix23.ssum_app, Int.zero_add, Int.zero_add]
  exact ⟨⟨hR, hf⟩, by simp [Ix23.bsum], by simp [Ix23.ssum]⟩
set_option maxHeartbeats 8000000 in
set_option maxRecDepth 100000 in
theorem areRight_any (ad : Option Addr) (n c : Nat) (l : List Rec) (w0 : World) (h : RcF w0 ad n c l) (hn : n ≤ 140737488355328) : Calls Tryd.prog 31 #[.slice ad n c] w0 fun e w' => e = .returned (.bool (Ix23.rightB 0 0 l)) ∧ Chg (fun _ => False) w0 w' := by
  have HL : Hid (RcF w0 ad n c l) := h
  have hni : (n : Int) ≤ 140737488355328 := by omega
  obtain ⟨N, hN⟩ : ∃ N, w0.heap.size = N := ⟨_, rfl⟩
  have HNN : Hid (w0.heap.size = N) := hN
  have hS0 : Sms (w0.alloc (.cells #[.int .i64 0, .int .i64 0] 85)) N 0 0 := by rw [← hN]; exact heap_alloc_last _ _
  have HS0 : Hid (Sms (w0.alloc (.cells #[.int .i64 0, .int .i64 0] 85)) N 0 0 ∧ Chg (fun _ => False) w0 (w0.alloc (.cells #[.int .i64 0, .int .i64 0] 85))) := ⟨hS0, chg_one w0 _⟩
  clear h hS0
  go_enter Tryd.func31, Tryd.ntmps31
  go_wp2_with fail
  try rw [hN]
  generalize w0.alloc (.cells #[.int .i64 0, .int .i64 0] 85) = w1 at *
  clear hN
  go_loopw [8] (fun i wr => ∃ k : Nat, k ≤ n ∧ i = .int .i64 (k : Int) ∧ Hid (Ix23.rightB 0 0 (l.take k) = true) ∧ Hid (Sms wr N (Ix23.bsum (l.take k)) (Ix23.ssum (l.take k))) ∧ Hid (Chg (fun _ => False) w0 wr)) (fun i _ => n - (intOf i).toNat)
  case atStart => exact ⟨0, by omega, rfl, rfl, by show Sms _ _ _ _; simpa [Ix23.bsum, Ix23.ssum] using HS0.out.1, HS0.out.2⟩
  case round =>
    obtain ⟨k, hk, rfl, HR, HS, HC⟩ := hrel
    have hki : (k : Int) ≤ (n : Int) := by omega
    obtain ⟨hb0, hb1, hs0, hs1⟩ := sum_bd HR.out
    by_cases hlt : k < n
    · have d1 : decide ((k : Int) < (n : Int)) = true := decide_eq_true (by omega)
      have d1' : decide (k < n) = true := decide_eq_true hlt
      obtain ⟨q, bx, ox, hq, hI, rfl, x0, x1⟩ := (HL.out.new HC.out).at hlt
      obtain ⟨u, s⟩ := q
      simp only at x0 x1
      have HQ : Hid (l[k]? = some ⟨u, s⟩) := hq
      have cA := chg_one wr (.cells #[.int .i64 u, .int .i64 s] 43)
      have HF : Hid _ := take23_any N (Ix23.bsum (l.take k)) (Ix23.ssum (l.take k)) u s (wr.alloc (.cells #[.int .i64 u, .int .i64 s] 43)) (HS.out.keep cA (fun f => f)) hb0 hb1 hs0 hs1 hI
      have HCA : Hid (Chg (fun _ => False) w0 (wr.alloc (.cells #[.int .i64 u, .int .i64 s] 43))) := chg_then HC.out cA
      have HN1 : Hid _ := @right_next l k u s HQ.out HR.out
      have HB : Hid (Ix23.fitB (Ix23.bsum (l.take k)) (Ix23.ssum (l.take k)) ⟨u, s⟩ = false → Ix23.rightB 0 0 l = false) := fun hf => right_bad HQ.out HR.out hf
      have m0 : (wr.alloc (.cells #[.int .i64 u, .int .i64 s] 43)).cell? ⟨wr.heap.size, 0, none⟩ = some (.int .i64 u) := cell0 (heap_alloc_last wr _)
      have m1 : (wr.alloc (.cells #[.int .i64 u, .int .i64 s] 43)).cell? ⟨wr.heap.size, 1, none⟩ = some (.int .i64 s) := cell1 (heap_alloc_last wr _)
      clear hq hI cA HS
      generalize Ix23.fitB (Ix23.bsum (l.take k)) (Ix23.ssum (l.take k)) ⟨u, s⟩ = ok at *
      go_wp2_with fail
      refine Calls.mono HF.out ?_
      rintro z w2 ⟨rfl, h2, c2⟩
      have HC2 : Hid (Chg (fun _ => False) w0 w2) := HCA.out.trans c2 (fun g e => .inr (by have := HNN.out; omega))
      have H2 : Hid (ok = true → Sms w2 N (Ix23.bsum (l.take k) + Ix23.pad u) (Ix23.ssum (l.take k) + s)) := h2
      clear h2 c2 HF x0 x1 HCA m0 m1
      cases ok
      · have HE : Hid (Ix23.rightB 0 0 l = false) := HB.out rfl
        go_wp2
        go_ret
        exact ⟨by rw [HE.out]; rfl, HC2.out⟩
      · obtain ⟨n1, n2, n3⟩ := HN1.out rfl
        have HS2 : Hid (Sms w2 N (Ix23.bsum (l.take (k + 1))) (Ix23.ssum (l.take (k + 1)))) := by
          show Sms _ _ _ _
          rw [n2, n3]
          exact H2.out rfl
        have HR2 : Hid (Ix23.rightB 0 0 (l.take (k + 1)) = true) := n1
        clear n1 n2 n3 HN1 HB H2
        go_wp2
        go_roundw
        case rel => exact ⟨k + 1, by omega, by go_num, HR2, HS2, HC2⟩
        case measure => simp [intOf]; omega
    · obtain rfl : k = n := by omega
      have hl := HL.out.len
      rw [List.take_of_length_le (by omega)] at HR
      have HE : Hid (Ix23.rightB 0 0 l = true) := HR
      go_wp2
      go_ret
      exact ⟨by rw [HE.out]; rfl, HC.out⟩
end Go.Proofs.YtehfcfpbjenmjaaDoor
