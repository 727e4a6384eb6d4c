/- The contract of step: the arms that read; of no statement by themselves. -/
import Derived.Test.YtloenokbkmhceaaMade
import Derived.Test.YtloenokbkmhceaaLastP
import Derived.Test.YtloenokbkmhceaaMoves
namespace Go.Proofs.Ytloenokbkmhceaa
open Go.RowKit
set_option linter.unusedVariables false

set_option maxHeartbeats 4000000 in
set_option maxRecDepth 100000 in
theorem step_at_out (w0 w : World) (P : Nat) (av bv : Value) (its : List It) (s : Nat) (i b : Int) (h : Play w0 w P av bv its) (hs : s < its.length) (hn : its.length ≤ 4398046510976) (hi : i < 0 ∨ (its[s].xs.length : Int) ≤ i) : Calls Try.prog 19 #[.pointer (some ⟨P, 0, none⟩), .agg #[.int .i64 1, .int .i64 (s : Int), .int .i64 i, .int .i64 b]] w fun e w' => e = .returned (.bool true) ∧ Play w0 w' P av bv its := by
  have hs0 : w0.heap.size ≤ w.heap.size := h.chg.size
  have hPl := lt_of_blk h.pair
  have hdS : decide ((s : Int) < 0) = false := by simp
  have hdL : decide (its.length ≤ s) = false := by simp; omega
  have hcW := chg_one w (.cells #[.int .i64 1, .int .i64 (s : Int), .int .i64 i, .int .i64 b] 50)
  have hb := heap_alloc_last w (.cells #[.int .i64 1, .int .i64 (s : Int), .int .i64 i, .int .i64 b] 50)
  obtain ⟨ga, capa, hav, hcapa, hA⟩ := h.a_at (by omega)
  obtain ⟨gb, capb, hbv, hcapb, hB⟩ := h.b_at (by omega)
  have pa := cell_chg (cell0 h.pair) hcW
  have pb := cell_chg (cell1 h.pair) hcW
  have xa := cell_chg (hA s hs) hcW
  have xb := cell_chg (hB s hs) hcW
  rw [hav] at pa
  rw [hbv] at pb
  have HP : Hid (Play w0 w P av bv its) := h
  have HFO : Hid (∀ z, Foots its[s] z → z ≠ w.heap.size) := fun z f => by
    rcases f with f | f
    · have := ((h.good s hs).st.own.lt z f).2
      omega
    · have := ((h.good s hs).rt.own.lt z f).2
      omega
  clear h hA hB hav hbv
  go_enter Try.func19, Try.ntmps19
  go_wp2_with fail
  have c0 : (w.alloc (.cells #[.int .i64 1, .int .i64 (s : Int), .int .i64 i, .int .i64 b] 50)).cell? ⟨w.heap.size, 0, none⟩ = some (.int .i64 1) := by simp only [World.cell?, hb]; rfl
  have c1 : (w.alloc (.cells #[.int .i64 1, .int .i64 (s : Int), .int .i64 i, .int .i64 b] 50)).cell? ⟨w.heap.size, 1, none⟩ = some (.int .i64 (s : Int)) := by simp only [World.cell?, hb]; rfl
  have c2 : (w.alloc (.cells #[.int .i64 1, .int .i64 (s : Int), .int .i64 i, .int .i64 b] 50)).cell? ⟨w.heap.size, 2, none⟩ = some (.int .i64 i) := by simp only [World.cell?, hb]; rfl
  have c3 : (w.alloc (.cells #[.int .i64 1, .int .i64 (s : Int), .int .i64 i, .int .i64 b] 50)).cell? ⟨w.heap.size, 3, none⟩ = some (.int .i64 b) := by simp only [World.cell?, hb]; rfl
  have HC : Hid (Chg (fun _ => False) w (w.alloc (.cells #[.int .i64 1, .int .i64 (s : Int), .int .i64 i, .int .i64 b] 50))) := hcW
  clear hb hcW
  generalize w.alloc (.cells #[.int .i64 1, .int .i64 (s : Int), .int .i64 i, .int .i64 b] 50) = W1 at *
  generalize w.heap.size = O at *
  go_quiet (fail)
  have HC2 : Hid (Chg (fun _ => False) w (W1.drewN nq)) := chg_then HC.out (chg_drewN W1 nq)
  have c02 := cell_chg c0 (chg_drewN W1 nq)
  have c12 := cell_chg c1 (chg_drewN W1 nq)
  have c22 := cell_chg c2 (chg_drewN W1 nq)
  have c32 := cell_chg c3 (chg_drewN W1 nq)
  have pa2 := cell_chg pa (chg_drewN W1 nq)
  have pb2 := cell_chg pb (chg_drewN W1 nq)
  have xa2 := cell_chg xa (chg_drewN W1 nq)
  have xb2 := cell_chg xb (chg_drewN W1 nq)
  clear c0 c1 c2 c3 pa pb xa xb HC
  generalize W1.drewN nq = W2 at *
  go_wp2_with fail
  go_quiet (fail)
  have HC3 : Hid (Chg (fun _ => False) w (W2.drewN nq)) := chg_then HC2.out (chg_drewN W2 nq)
  have c03 := cell_chg c02 (chg_drewN W2 nq)
  have c13 := cell_chg c12 (chg_drewN W2 nq)
  have c23 := cell_chg c22 (chg_drewN W2 nq)
  have c33 := cell_chg c32 (chg_drewN W2 nq)
  have pa3 := cell_chg pa2 (chg_drewN W2 nq)
  have pb3 := cell_chg pb2 (chg_drewN W2 nq)
  have xa3 := cell_chg xa2 (chg_drewN W2 nq)
  have xb3 := cell_chg xb2 (chg_drewN W2 nq)
  clear c02 c12 c22 c32 pa2 pb2 xa2 xb2 HC2
  generalize W2.drewN nq = W3 at *
  go_wp2_with fail
  go_quiet (fail)
  have HC4 : Hid (Chg (fun _ => False) w (W3.drewN nq)) := chg_then HC3.out (chg_drewN W3 nq)
  have c04 := cell_chg c03 (chg_drewN W3 nq)
  have c14 := cell_chg c13 (chg_drewN W3 nq)
  have c24 := cell_chg c23 (chg_drewN W3 nq)
  have c34 := cell_chg c33 (chg_drewN W3 nq)
  have pa4 := cell_chg pa3 (chg_drewN W3 nq)
  have pb4 := cell_chg pb3 (chg_drewN W3 nq)
  have xa4 := cell_chg xa3 (chg_drewN W3 nq)
  have xb4 := cell_chg xb3 (chg_drewN W3 nq)
  clear c03 c13 c23 c33 pa3 pb3 xa3 xb3 HC3
  generalize W3.drewN nq = W4 at *
  have HP4 : Hid (Play w0 W4 P av bv its) := HP.out.new HC4.out
  clear xa4 xb4 pa4 pb4
  go_wp2_with fail
  have hG := HP4.out.good s hs
  refine (at_out _ _ _ _ i _ hG.st hi).mono ?_
  rintro e W5 ⟨rfl, rfl⟩
  go_wp2_with fail
  refine (rat_out _ _ _ _ _ i _ hG.rt hi).mono ?_
  rintro e W5 ⟨rfl, rfl⟩
  clear hG
  go_wp2
  go_ret
  exact ⟨rfl, HP4.out⟩


set_option maxHeartbeats 4000000 in
set_option maxRecDepth 100000 in
theorem step_at_in (w0 w : World) (P : Nat) (av bv : Value) (its : List It) (s : Nat) (i b : Int) (h : Play w0 w P av bv its) (hs : s < its.length) (hn : its.length ≤ 4398046510976) (j : Nat) (hj : j < its[s].xs.length) (hij : Hid (i = j)) : Calls Try.prog 19 #[.pointer (some ⟨P, 0, none⟩), .agg #[.int .i64 1, .int .i64 (s : Int), .int .i64 i, .int .i64 b]] w fun e w' => e = .returned (.bool true) ∧ Play w0 w' P av bv its := by
  have hs0 : w0.heap.size ≤ w.heap.size := h.chg.size
  have hPl := lt_of_blk h.pair
  have hdS : decide ((s : Int) < 0) = false := by simp
  have hdL : decide (its.length ≤ s) = false := by simp; omega
  have hcW := chg_one w (.cells #[.int .i64 1, .int .i64 (s : Int), .int .i64 i, .int .i64 b] 50)
  have hb := heap_alloc_last w (.cells #[.int .i64 1, .int .i64 (s : Int), .int .i64 i, .int .i64 b] 50)
  obtain ⟨ga, capa, hav, hcapa, hA⟩ := h.a_at (by omega)
  obtain ⟨gb, capb, hbv, hcapb, hB⟩ := h.b_at (by omega)
  have pa := cell_chg (cell0 h.pair) hcW
  have pb := cell_chg (cell1 h.pair) hcW
  have xa := cell_chg (hA s hs) hcW
  have xb := cell_chg (hB s hs) hcW
  rw [hav] at pa
  rw [hbv] at pb
  have HP : Hid (Play w0 w P av bv its) := h
  have HFO : Hid (∀ z, Foots its[s] z → z ≠ w.heap.size) := fun z f => by
    rcases f with f | f
    · have := ((h.good s hs).st.own.lt z f).2
      omega
    · have := ((h.good s hs).rt.own.lt z f).2
      omega
  clear h hA hB hav hbv
  go_enter Try.func19, Try.ntmps19
  go_wp2_with fail
  have c0 : (w.alloc (.cells #[.int .i64 1, .int .i64 (s : Int), .int .i64 i, .int .i64 b] 50)).cell? ⟨w.heap.size, 0, none⟩ = some (.int .i64 1) := by simp only [World.cell?, hb]; rfl
  have c1 : (w.alloc (.cells #[.int .i64 1, .int .i64 (s : Int), .int .i64 i, .int .i64 b] 50)).cell? ⟨w.heap.size, 1, none⟩ = some (.int .i64 (s : Int)) := by simp only [World.cell?, hb]; rfl
  have c2 : (w.alloc (.cells #[.int .i64 1, .int .i64 (s : Int), .int .i64 i, .int .i64 b] 50)).cell? ⟨w.heap.size, 2, none⟩ = some (.int .i64 i) := by simp only [World.cell?, hb]; rfl
  have c3 : (w.alloc (.cells #[.int .i64 1, .int .i64 (s : Int), .int .i64 i, .int .i64 b] 50)).cell? ⟨w.heap.size, 3, none⟩ = some (.int .i64 b) := by simp only [World.cell?, hb]; rfl
  have HC : Hid (Chg (fun _ => False) w (w.alloc (.cells #[.int .i64 1, .int .i64 (s : Int), .int .i64 i, .int .i64 b] 50))) := hcW
  clear hb hcW
  generalize w.alloc (.cells #[.int .i64 1, .int .i64 (s : Int), .int .i64 i, .int .i64 b] 50) = W1 at *
  generalize w.heap.size = O at *
  go_quiet (fail)
  have HC2 : Hid (Chg (fun _ => False) w (W1.drewN nq)) := chg_then HC.out (chg_drewN W1 nq)
  have c02 := cell_chg c0 (chg_drewN W1 nq)
  have c12 := cell_chg c1 (chg_drewN W1 nq)
  have c22 := cell_chg c2 (chg_drewN W1 nq)
  have c32 := cell_chg c3 (chg_drewN W1 nq)
  have pa2 := cell_chg pa (chg_drewN W1 nq)
  have pb2 := cell_chg pb (chg_drewN W1 nq)
  have xa2 := cell_chg xa (chg_drewN W1 nq)
  have xb2 := cell_chg xb (chg_drewN W1 nq)
  clear c0 c1 c2 c3 pa pb xa xb HC
  generalize W1.drewN nq = W2 at *
  go_wp2_with fail
  go_quiet (fail)
  have HC3 : Hid (Chg (fun _ => False) w (W2.drewN nq)) := chg_then HC2.out (chg_drewN W2 nq)
  have c03 := cell_chg c02 (chg_drewN W2 nq)
  have c13 := cell_chg c12 (chg_drewN W2 nq)
  have c23 := cell_chg c22 (chg_drewN W2 nq)
  have c33 := cell_chg c32 (chg_drewN W2 nq)
  have pa3 := cell_chg pa2 (chg_drewN W2 nq)
  have pb3 := cell_chg pb2 (chg_drewN W2 nq)
  have xa3 := cell_chg xa2 (chg_drewN W2 nq)
  have xb3 := cell_chg xb2 (chg_drewN W2 nq)
  clear c02 c12 c22 c32 pa2 pb2 xa2 xb2 HC2
  generalize W2.drewN nq = W3 at *
  go_wp2_with fail
  go_quiet (fail)
  have HC4 : Hid (Chg (fun _ => False) w (W3.drewN nq)) := chg_then HC3.out (chg_drewN W3 nq)
  have c04 := cell_chg c03 (chg_drewN W3 nq)
  have c14 := cell_chg c13 (chg_drewN W3 nq)
  have c24 := cell_chg c23 (chg_drewN W3 nq)
  have c34 := cell_chg c33 (chg_drewN W3 nq)
  have pa4 := cell_chg pa3 (chg_drewN W3 nq)
  have pb4 := cell_chg pb3 (chg_drewN W3 nq)
  have xa4 := cell_chg xa3 (chg_drewN W3 nq)
  have xb4 := cell_chg xb3 (chg_drewN W3 nq)
  clear c03 c13 c23 c33 pa3 pb3 xa3 xb3 HC3
  generalize W3.drewN nq = W4 at *
  have HP4 : Hid (Play w0 W4 P av bv its) := HP.out.new HC4.out
  clear xa4 xb4 pa4 pb4
  go_wp2_with fail
  have hij2 := hij.out
  subst hij2
  have hG := HP4.out.good s hs
  refine (at_in _ _ _ _ j _ hG.st hG.inn hj).mono ?_
  rintro e W5 ⟨rfl, rfl⟩
  go_wp2_with fail
  refine (rat_in _ _ _ _ _ j _ hG.rt hj).mono ?_
  rintro e W5 ⟨rfl, rfl⟩
  clear hG
  go_wp2
  go_ret
  exact ⟨rfl, HP4.out⟩


set_option maxHeartbeats 4000000 in
set_option maxRecDepth 100000 in
theorem step_turn_out (w0 w : World) (P : Nat) (av bv : Value) (its : List It) (s : Nat) (i b : Int) (h : Play w0 w P av bv its) (hs : s < its.length) (hn : its.length ≤ 4398046510976) (hi : i < 0 ∨ (its[s].xs.length : Int) ≤ i) : Calls Try.prog 19 #[.pointer (some ⟨P, 0, none⟩), .agg #[.int .i64 2, .int .i64 (s : Int), .int .i64 i, .int .i64 b]] w fun e w' => e = .returned (.bool true) ∧ Play w0 w' P av bv its := by
  have hs0 : w0.heap.size ≤ w.heap.size := h.chg.size
  have hPl := lt_of_blk h.pair
  have hdS : decide ((s : Int) < 0) = false := by simp
  have hdL : decide (its.length ≤ s) = false := by simp; omega
  have hcW := chg_one w (.cells #[.int .i64 2, .int .i64 (s : Int), .int .i64 i, .int .i64 b] 50)
  have hb := heap_alloc_last w (.cells #[.int .i64 2, .int .i64 (s : Int), .int .i64 i, .int .i64 b] 50)
  obtain ⟨ga, capa, hav, hcapa, hA⟩ := h.a_at (by omega)
  obtain ⟨gb, capb, hbv, hcapb, hB⟩ := h.b_at (by omega)
  have pa := cell_chg (cell0 h.pair) hcW
  have pb := cell_chg (cell1 h.pair) hcW
  have xa := cell_chg (hA s hs) hcW
  have xb := cell_chg (hB s hs) hcW
  rw [hav] at pa
  rw [hbv] at pb
  have HP : Hid (Play w0 w P av bv its) := h
  have HFO : Hid (∀ z, Foots its[s] z → z ≠ w.heap.size) := fun z f => by
    rcases f with f | f
    · have := ((h.good s hs).st.own.lt z f).2
      omega
    · have := ((h.good s hs).rt.own.lt z f).2
      omega
  clear h hA hB hav hbv
  go_enter Try.func19, Try.ntmps19
  go_wp2_with fail
  have c0 : (w.alloc (.cells #[.int .i64 2, .int .i64 (s : Int), .int .i64 i, .int .i64 b] 50)).cell? ⟨w.heap.size, 0, none⟩ = some (.int .i64 2) := by simp only [World.cell?, hb]; rfl
  have c1 : (w.alloc (.cells #[.int .i64 2, .int .i64 (s : Int), .int .i64 i, .int .i64 b] 50)).cell? ⟨w.heap.size, 1, none⟩ = some (.int .i64 (s : Int)) := by simp only [World.cell?, hb]; rfl
  have c2 : (w.alloc (.cells #[.int .i64 2, .int .i64 (s : Int), .int .i64 i, .int .i64 b] 50)).cell? ⟨w.heap.size, 2, none⟩ = some (.int .i64 i) := by simp only [World.cell?, hb]; rfl
  have c3 : (w.alloc (.cells #[.int .i64 2, .int .i64 (s : Int), .int .i64 i, .int .i64 b] 50)).cell? ⟨w.heap.size, 3, none⟩ = some (.int .i64 b) := by simp only [World.cell?, hb]; rfl
  have HC : Hid (Chg (fun _ => False) w (w.alloc (.cells #[.int .i64 2, .int .i64 (s : Int), .int .i64 i, .int .i64 b] 50))) := hcW
  clear hb hcW
  generalize w.alloc (.cells #[.int .i64 2, .int .i64 (s : Int), .int .i64 i, .int .i64 b] 50) = W1 at *
  generalize w.heap.size = O at *
  go_quiet (fail)
  have HC2 : Hid (Chg (fun _ => False) w (W1.drewN nq)) := chg_then HC.out (chg_drewN W1 nq)
  have c02 := cell_chg c0 (chg_drewN W1 nq)
  have c12 := cell_chg c1 (chg_drewN W1 nq)
  have c22 := cell_chg c2 (chg_drewN W1 nq)
  have c32 := cell_chg c3 (chg_drewN W1 nq)
  have pa2 := cell_chg pa (chg_drewN W1 nq)
  have pb2 := cell_chg pb (chg_drewN W1 nq)
  have xa2 := cell_chg xa (chg_drewN W1 nq)
  have xb2 := cell_chg xb (chg_drewN W1 nq)
  clear c0 c1 c2 c3 pa pb xa xb HC
  generalize W1.drewN nq = W2 at *
  go_wp2_with fail
  go_quiet (fail)
  have HC3 : Hid (Chg (fun _ => False) w (W2.drewN nq)) := chg_then HC2.out (chg_drewN W2 nq)
  have c03 := cell_chg c02 (chg_drewN W2 nq)
  have c13 := cell_chg c12 (chg_drewN W2 nq)
  have c23 := cell_chg c22 (chg_drewN W2 nq)
  have c33 := cell_chg c32 (chg_drewN W2 nq)
  have pa3 := cell_chg pa2 (chg_drewN W2 nq)
  have pb3 := cell_chg pb2 (chg_drewN W2 nq)
  have xa3 := cell_chg xa2 (chg_drewN W2 nq)
  have xb3 := cell_chg xb2 (chg_drewN W2 nq)
  clear c02 c12 c22 c32 pa2 pb2 xa2 xb2 HC2
  generalize W2.drewN nq = W3 at *
  go_wp2_with fail
  go_quiet (fail)
  have HC4 : Hid (Chg (fun _ => False) w (W3.drewN nq)) := chg_then HC3.out (chg_drewN W3 nq)
  have c04 := cell_chg c03 (chg_drewN W3 nq)
  have c14 := cell_chg c13 (chg_drewN W3 nq)
  have c24 := cell_chg c23 (chg_drewN W3 nq)
  have c34 := cell_chg c33 (chg_drewN W3 nq)
  have pa4 := cell_chg pa3 (chg_drewN W3 nq)
  have pb4 := cell_chg pb3 (chg_drewN W3 nq)
  have xa4 := cell_chg xa3 (chg_drewN W3 nq)
  have xb4 := cell_chg xb3 (chg_drewN W3 nq)
  clear c03 c13 c23 c33 pa3 pb3 xa3 xb3 HC3
  generalize W3.drewN nq = W4 at *
  have HP4 : Hid (Play w0 W4 P av bv its) := HP.out.new HC4.out
  clear xa4 xb4 pa4 pb4
  go_wp2_with fail
  have HG : Hid (Good W4 w0.heap.size its[s]) := HP4.out.good s hs
  go_quiet (first | (go_at_call 12; exact quiet_of (turn_out _ _ _ _ i _ _ (HG.out.st.new (chg_drewN _ _)) hi)) | (go_at_call 29; exact quiet_of (rturn_out _ _ _ _ _ i _ _ (HG.out.rt.new (chg_drewN _ _)) hi)))
  have HP5 : Hid (Play w0 (W4.drewN nq) P av bv its) := HP4.out.new (chg_drewN _ _)
  clear HG
  go_wp2
  go_ret
  exact ⟨rfl, HP5.out⟩


set_option maxHeartbeats 4000000 in
set_option maxRecDepth 100000 in
theorem step_reset (w0 w : World) (P : Nat) (av bv : Value) (its : List It) (s : Nat) (i b : Int) (h : Play w0 w P av bv its) (hs : s < its.length) (hn : its.length ≤ 4398046510976) : Calls Try.prog 19 #[.pointer (some ⟨P, 0, none⟩), .agg #[.int .i64 3, .int .i64 (s : Int), .int .i64 i, .int .i64 b]] w fun e w' => e = .returned (.bool true) ∧ Play w0 w' P av bv (its.set s ⟨its[s].a, its[s].r, its[s].v, its[s].n, its[s].u, List.replicate its[s].xs.length 1024⟩) := by
  have hs0 : w0.heap.size ≤ w.heap.size := h.chg.size
  have hPl := lt_of_blk h.pair
  have hdS : decide ((s : Int) < 0) = false := by simp
  have hdL : decide (its.length ≤ s) = false := by simp; omega
  have hcW := chg_one w (.cells #[.int .i64 3, .int .i64 (s : Int), .int .i64 i, .int .i64 b] 50)
  have hb := heap_alloc_last w (.cells #[.int .i64 3, .int .i64 (s : Int), .int .i64 i, .int .i64 b] 50)
  obtain ⟨ga, capa, hav, hcapa, hA⟩ := h.a_at (by omega)
  obtain ⟨gb, capb, hbv, hcapb, hB⟩ := h.b_at (by omega)
  have pa := cell_chg (cell0 h.pair) hcW
  have pb := cell_chg (cell1 h.pair) hcW
  have xa := cell_chg (hA s hs) hcW
  have xb := cell_chg (hB s hs) hcW
  rw [hav] at pa
  rw [hbv] at pb
  have HP : Hid (Play w0 w P av bv its) := h
  have HFO : Hid (∀ z, Foots its[s] z → z ≠ w.heap.size) := fun z f => by
    rcases f with f | f
    · have := ((h.good s hs).st.own.lt z f).2
      omega
    · have := ((h.good s hs).rt.own.lt z f).2
      omega
  clear h hA hB hav hbv
  go_enter Try.func19, Try.ntmps19
  go_wp2_with fail
  have c0 : (w.alloc (.cells #[.int .i64 3, .int .i64 (s : Int), .int .i64 i, .int .i64 b] 50)).cell? ⟨w.heap.size, 0, none⟩ = some (.int .i64 3) := by simp only [World.cell?, hb]; rfl
  have c1 : (w.alloc (.cells #[.int .i64 3, .int .i64 (s : Int), .int .i64 i, .int .i64 b] 50)).cell? ⟨w.heap.size, 1, none⟩ = some (.int .i64 (s : Int)) := by simp only [World.cell?, hb]; rfl
  have c2 : (w.alloc (.cells #[.int .i64 3, .int .i64 (s : Int), .int .i64 i, .int .i64 b] 50)).cell? ⟨w.heap.size, 2, none⟩ = some (.int .i64 i) := by simp only [World.cell?, hb]; rfl
  have c3 : (w.alloc (.cells #[.int .i64 3, .int .i64 (s : Int), .int .i64 i, .int .i64 b] 50)).cell? ⟨w.heap.size, 3, none⟩ = some (.int .i64 b) := by simp only [World.cell?, hb]; rfl
  have HC : Hid (Chg (fun _ => False) w (w.alloc (.cells #[.int .i64 3, .int .i64 (s : Int), .int .i64 i, .int .i64 b] 50))) := hcW
  clear hb hcW
  generalize w.alloc (.cells #[.int .i64 3, .int .i64 (s : Int), .int .i64 i, .int .i64 b] 50) = W1 at *
  generalize w.heap.size = O at *
  go_quiet (fail)
  have HC2 : Hid (Chg (fun _ => False) w (W1.drewN nq)) := chg_then HC.out (chg_drewN W1 nq)
  have c02 := cell_chg c0 (chg_drewN W1 nq)
  have c12 := cell_chg c1 (chg_drewN W1 nq)
  have c22 := cell_chg c2 (chg_drewN W1 nq)
  have c32 := cell_chg c3 (chg_drewN W1 nq)
  have pa2 := cell_chg pa (chg_drewN W1 nq)
  have pb2 := cell_chg pb (chg_drewN W1 nq)
  have xa2 := cell_chg xa (chg_drewN W1 nq)
  have xb2 := cell_chg xb (chg_drewN W1 nq)
  clear c0 c1 c2 c3 pa pb xa xb HC
  generalize W1.drewN nq = W2 at *
  go_wp2_with fail
  go_quiet (fail)
  have HC3 : Hid (Chg (fun _ => False) w (W2.drewN nq)) := chg_then HC2.out (chg_drewN W2 nq)
  have c03 := cell_chg c02 (chg_drewN W2 nq)
  have c13 := cell_chg c12 (chg_drewN W2 nq)
  have c23 := cell_chg c22 (chg_drewN W2 nq)
  have c33 := cell_chg c32 (chg_drewN W2 nq)
  have pa3 := cell_chg pa2 (chg_drewN W2 nq)
  have pb3 := cell_chg pb2 (chg_drewN W2 nq)
  have xa3 := cell_chg xa2 (chg_drewN W2 nq)
  have xb3 := cell_chg xb2 (chg_drewN W2 nq)
  clear c02 c12 c22 c32 pa2 pb2 xa2 xb2 HC2
  generalize W2.drewN nq = W3 at *
  go_wp2_with fail
  go_quiet (fail)
  have HC4 : Hid (Chg (fun _ => False) w (W3.drewN nq)) := chg_then HC3.out (chg_drewN W3 nq)
  have c04 := cell_chg c03 (chg_drewN W3 nq)
  have c14 := cell_chg c13 (chg_drewN W3 nq)
  have c24 := cell_chg c23 (chg_drewN W3 nq)
  have c34 := cell_chg c33 (chg_drewN W3 nq)
  have pa4 := cell_chg pa3 (chg_drewN W3 nq)
  have pb4 := cell_chg pb3 (chg_drewN W3 nq)
  have xa4 := cell_chg xa3 (chg_drewN W3 nq)
  have xb4 := cell_chg xb3 (chg_drewN W3 nq)
  clear c03 c13 c23 c33 pa3 pb3 xa3 xb3 HC3
  generalize W3.drewN nq = W4 at *
  have HP4 : Hid (Play w0 W4 P av bv its) := HP.out.new HC4.out
  clear xa4 xb4 pa4 pb4
  go_wp2_with fail
  have hG := HP4.out.good s hs
  refine (reset_any _ _ _ _ _ hG.st hG.len).mono ?_
  rintro e W5 ⟨rfl, h5, c5⟩
  have hR5 : Rt W5 w0.heap.size its[s].r its[s].n its[s].u its[s].xs := hG.rt.keep c5 (fun e => by obtain ⟨cs, hb⟩ := hG.vb e; exact ty_ne hb hG.rt.blk (by decide)) (fun g e e2 => by obtain ⟨cs, hb⟩ := hG.ub e; obtain ⟨cs2, hb2⟩ := hG.vb e2; exact ty_ne hb hb2 (by decide))
  have H5 : Hid (St W5 w0.heap.size its[s].a its[s].v (List.replicate its[s].xs.length 1024)) := h5
  have HC5 : Hid (Chg (fun k => its[s].v.ownBlock = some k) W4 W5) := c5
  have HR5 : Hid (Rt W5 w0.heap.size its[s].r its[s].n its[s].u its[s].xs) := hR5
  have hlen := hG.len
  clear h5 c5 hR5 hG
  go_wp2_with fail
  refine (rreset_any _ _ _ _ _ _ HR5.out hlen).mono ?_
  rintro e W6 ⟨rfl, h6, c6⟩
  have HP6 : Hid (Play w0 W6 P av bv (its.set s ⟨its[s].a, its[s].r, its[s].v, its[s].n, its[s].u, List.replicate its[s].xs.length 1024⟩)) := by
    refine HP4.out.put s hs ((HC5.out.mono (T := Foots its[s]) (fun _ e => .inl (.inl e))).trans c6 (fun _ e => .inl (.inr e))) _ ⟨H5.out.keep c6 (fun e => ?_) (fun g e e2 => ?_), h6, In.half _, by simpa using hlen⟩
    · obtain ⟨cs, hb⟩ := owns_blk HR5.out.own e
      exact ty_ne hb H5.out.blk (by decide)
    · obtain ⟨cs, hb⟩ := owns_blk H5.out.own e
      obtain ⟨cs2, hb2⟩ := owns_blk HR5.out.own e2
      exact ty_ne hb hb2 (by decide)
  clear h6 c6
  go_wp2
  go_ret
  exact ⟨rfl, HP6.out⟩


set_option maxHeartbeats 4000000 in
set_option maxRecDepth 100000 in
theorem step_len (w0 w : World) (P : Nat) (av bv : Value) (its : List It) (s : Nat) (i b : Int) (h : Play w0 w P av bv its) (hs : s < its.length) (hn : its.length ≤ 4398046510976) : Calls Try.prog 19 #[.pointer (some ⟨P, 0, none⟩), .agg #[.int .i64 5, .int .i64 (s : Int), .int .i64 i, .int .i64 b]] w fun e w' => e = .returned (.bool true) ∧ Play w0 w' P av bv its := by
  have hs0 : w0.heap.size ≤ w.heap.size := h.chg.size
  have hPl := lt_of_blk h.pair
  have hdS : decide ((s : Int) < 0) = false := by simp
  have hdL : decide (its.length ≤ s) = false := by simp; omega
  have hcW := chg_one w (.cells #[.int .i64 5, .int .i64 (s : Int), .int .i64 i, .int .i64 b] 50)
  have hb := heap_alloc_last w (.cells #[.int .i64 5, .int .i64 (s : Int), .int .i64 i, .int .i64 b] 50)
  obtain ⟨ga, capa, hav, hcapa, hA⟩ := h.a_at (by omega)
  obtain ⟨gb, capb, hbv, hcapb, hB⟩ := h.b_at (by omega)
  have pa := cell_chg (cell0 h.pair) hcW
  have pb := cell_chg (cell1 h.pair) hcW
  have xa := cell_chg (hA s hs) hcW
  have xb := cell_chg (hB s hs) hcW
  rw [hav] at pa
  rw [hbv] at pb
  have HP : Hid (Play w0 w P av bv its) := h
  have HFO : Hid (∀ z, Foots its[s] z → z ≠ w.heap.size) := fun z f => by
    rcases f with f | f
    · have := ((h.good s hs).st.own.lt z f).2
      omega
    · have := ((h.good s hs).rt.own.lt z f).2
      omega
  clear h hA hB hav hbv
  go_enter Try.func19, Try.ntmps19
  go_wp2_with fail
  have c0 : (w.alloc (.cells #[.int .i64 5, .int .i64 (s : Int), .int .i64 i, .int .i64 b] 50)).cell? ⟨w.heap.size, 0, none⟩ = some (.int .i64 5) := by simp only [World.cell?, hb]; rfl
  have c1 : (w.alloc (.cells #[.int .i64 5, .int .i64 (s : Int), .int .i64 i, .int .i64 b] 50)).cell? ⟨w.heap.size, 1, none⟩ = some (.int .i64 (s : Int)) := by simp only [World.cell?, hb]; rfl
  have c2 : (w.alloc (.cells #[.int .i64 5, .int .i64 (s : Int), .int .i64 i, .int .i64 b] 50)).cell? ⟨w.heap.size, 2, none⟩ = some (.int .i64 i) := by simp only [World.cell?, hb]; rfl
  have c3 : (w.alloc (.cells #[.int .i64 5, .int .i64 (s : Int), .int .i64 i, .int .i64 b] 50)).cell? ⟨w.heap.size, 3, none⟩ = some (.int .i64 b) := by simp only [World.cell?, hb]; rfl
  have HC : Hid (Chg (fun _ => False) w (w.alloc (.cells #[.int .i64 5, .int .i64 (s : Int), .int .i64 i, .int .i64 b] 50))) := hcW
  clear hb hcW
  generalize w.alloc (.cells #[.int .i64 5, .int .i64 (s : Int), .int .i64 i, .int .i64 b] 50) = W1 at *
  generalize w.heap.size = O at *
  go_quiet (fail)
  have HC2 : Hid (Chg (fun _ => False) w (W1.drewN nq)) := chg_then HC.out (chg_drewN W1 nq)
  have c02 := cell_chg c0 (chg_drewN W1 nq)
  have c12 := cell_chg c1 (chg_drewN W1 nq)
  have c22 := cell_chg c2 (chg_drewN W1 nq)
  have c32 := cell_chg c3 (chg_drewN W1 nq)
  have pa2 := cell_chg pa (chg_drewN W1 nq)
  have pb2 := cell_chg pb (chg_drewN W1 nq)
  have xa2 := cell_chg xa (chg_drewN W1 nq)
  have xb2 := cell_chg xb (chg_drewN W1 nq)
  clear c0 c1 c2 c3 pa pb xa xb HC
  generalize W1.drewN nq = W2 at *
  go_wp2_with fail
  go_quiet (fail)
  have HC3 : Hid (Chg (fun _ => False) w (W2.drewN nq)) := chg_then HC2.out (chg_drewN W2 nq)
  have c03 := cell_chg c02 (chg_drewN W2 nq)
  have c13 := cell_chg c12 (chg_drewN W2 nq)
  have c23 := cell_chg c22 (chg_drewN W2 nq)
  have c33 := cell_chg c32 (chg_drewN W2 nq)
  have pa3 := cell_chg pa2 (chg_drewN W2 nq)
  have pb3 := cell_chg pb2 (chg_drewN W2 nq)
  have xa3 := cell_chg xa2 (chg_drewN W2 nq)
  have xb3 := cell_chg xb2 (chg_drewN W2 nq)
  clear c02 c12 c22 c32 pa2 pb2 xa2 xb2 HC2
  generalize W2.drewN nq = W3 at *
  go_wp2_with fail
  go_quiet (fail)
  have HC4 : Hid (Chg (fun _ => False) w (W3.drewN nq)) := chg_then HC3.out (chg_drewN W3 nq)
  have c04 := cell_chg c03 (chg_drewN W3 nq)
  have c14 := cell_chg c13 (chg_drewN W3 nq)
  have c24 := cell_chg c23 (chg_drewN W3 nq)
  have c34 := cell_chg c33 (chg_drewN W3 nq)
  have pa4 := cell_chg pa3 (chg_drewN W3 nq)
  have pb4 := cell_chg pb3 (chg_drewN W3 nq)
  have xa4 := cell_chg xa3 (chg_drewN W3 nq)
  have xb4 := cell_chg xb3 (chg_drewN W3 nq)
  clear c03 c13 c23 c33 pa3 pb3 xa3 xb3 HC3
  generalize W3.drewN nq = W4 at *
  have HP4 : Hid (Play w0 W4 P av bv its) := HP.out.new HC4.out
  clear xa4 xb4 pa4 pb4
  go_wp2_with fail
  have HG : Hid (Good W4 w0.heap.size its[s]) := HP4.out.good s hs
  obtain ⟨uad, ucap, hu, _⟩ := own_any HG.out.rt.own
  have ru := cell1 HG.out.rt.blk
  rw [hu] at ru
  clear hu
  go_quiet (first | (go_at_call 20; exact quiet_of (len_any _ _ _ _ _ (HG.out.st.new (chg_drewN _ _)))))
  have HP5 : Hid (Play w0 (W4.drewN nq) P av bv its) := HP4.out.new (chg_drewN _ _)
  clear HG ru
  go_wp2
  go_ret
  exact ⟨rfl, HP5.out⟩


end Go.Proofs.Ytloenokbkmhceaa
