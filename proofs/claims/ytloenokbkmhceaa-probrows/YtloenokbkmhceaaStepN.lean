/- The contract of step where nothing is asked, and where a row is made; of no statement by itself. -/
import Derived.Test.YtloenokbkmhceaaMade
import Derived.Test.YtloenokbkmhceaaLastP
import Derived.Test.YtloenokbkmhceaaMoves
namespace Go.Proofs.Ytloenokbkmhceaa
open Go.RowKit
set_option linter.unusedVariables false
set_option maxHeartbeats 4000000 in
set_option maxRecDepth 100000 in
theorem step_neg (w0 w : World) (P : Nat) (av bv : Value) (its : List It) (k t i b : Int) (h : Play w0 w P av bv its) (hn : its.length ≤ 4398046510976) (hk : k ≠ 0) (ht : t < 0) : Calls Try.prog 19 #[.pointer (some ⟨P, 0, none⟩), .agg #[.int .i64 k, .int .i64 t, .int .i64 i, .int .i64 b]] w fun e w' => e = .returned (.bool true) ∧ Play w0 w' P av bv its := by
  have hcW := chg_one w (.cells #[.int .i64 k, .int .i64 t, .int .i64 i, .int .i64 b] 50)
  have hb := heap_alloc_last w (.cells #[.int .i64 k, .int .i64 t, .int .i64 i, .int .i64 b] 50)
  have pb := cell_chg (cell1 h.pair) hcW
  obtain ⟨bad, bcap, hbv, _⟩ := own_any h.rb
  rw [hbv] at pb
  have HP : Hid (Play w0 (w.alloc (.cells #[.int .i64 k, .int .i64 t, .int .i64 i, .int .i64 b] 50)) P av bv its) := h.new hcW
  clear h hbv
  go_enter Try.func19, Try.ntmps19
  go_wp2_with fail
  have c0 : (w.alloc (.cells #[.int .i64 k, .int .i64 t, .int .i64 i, .int .i64 b] 50)).cell? ⟨w.heap.size, 0, none⟩ = some (.int .i64 k) := by simp only [World.cell?, hb]; rfl
  have c1 : (w.alloc (.cells #[.int .i64 k, .int .i64 t, .int .i64 i, .int .i64 b] 50)).cell? ⟨w.heap.size, 1, none⟩ = some (.int .i64 t) := by simp only [World.cell?, hb]; rfl
  have c2 : (w.alloc (.cells #[.int .i64 k, .int .i64 t, .int .i64 i, .int .i64 b] 50)).cell? ⟨w.heap.size, 2, none⟩ = some (.int .i64 i) := by simp only [World.cell?, hb]; rfl
  clear hb hcW
  generalize w.alloc (.cells #[.int .i64 k, .int .i64 t, .int .i64 i, .int .i64 b] 50) = W1 at *
  generalize w.heap.size = O at *
  go_quiet (fail)
  have HP2 : Hid (Play w0 (W1.drewN nq) P av bv its) := HP.out.new (chg_drewN _ _)
  clear c0 c1 c2 pb
  go_wp2
  go_ret
  exact ⟨rfl, HP2.out⟩


set_option maxHeartbeats 4000000 in
set_option maxRecDepth 100000 in
theorem step_beyond (w0 w : World) (P : Nat) (av bv : Value) (its : List It) (k t i b : Int) (h : Play w0 w P av bv its) (hn : its.length ≤ 4398046510976) (hk : k ≠ 0) (ht : ¬ t < 0) (ht2 : (its.length : Int) ≤ t) : Calls Try.prog 19 #[.pointer (some ⟨P, 0, none⟩), .agg #[.int .i64 k, .int .i64 t, .int .i64 i, .int .i64 b]] w fun e w' => e = .returned (.bool true) ∧ Play w0 w' P av bv its := by
  have hd : decide (t < 0) = false := by simp; omega
  have hcW := chg_one w (.cells #[.int .i64 k, .int .i64 t, .int .i64 i, .int .i64 b] 50)
  have hb := heap_alloc_last w (.cells #[.int .i64 k, .int .i64 t, .int .i64 i, .int .i64 b] 50)
  have pb := cell_chg (cell1 h.pair) hcW
  obtain ⟨bad, bcap, hbv, _⟩ := own_any h.rb
  rw [hbv] at pb
  have HP : Hid (Play w0 (w.alloc (.cells #[.int .i64 k, .int .i64 t, .int .i64 i, .int .i64 b] 50)) P av bv its) := h.new hcW
  clear h hbv
  go_enter Try.func19, Try.ntmps19
  go_wp2_with fail
  have c0 : (w.alloc (.cells #[.int .i64 k, .int .i64 t, .int .i64 i, .int .i64 b] 50)).cell? ⟨w.heap.size, 0, none⟩ = some (.int .i64 k) := by simp only [World.cell?, hb]; rfl
  have c1 : (w.alloc (.cells #[.int .i64 k, .int .i64 t, .int .i64 i, .int .i64 b] 50)).cell? ⟨w.heap.size, 1, none⟩ = some (.int .i64 t) := by simp only [World.cell?, hb]; rfl
  have c2 : (w.alloc (.cells #[.int .i64 k, .int .i64 t, .int .i64 i, .int .i64 b] 50)).cell? ⟨w.heap.size, 2, none⟩ = some (.int .i64 i) := by simp only [World.cell?, hb]; rfl
  clear hb hcW
  generalize w.alloc (.cells #[.int .i64 k, .int .i64 t, .int .i64 i, .int .i64 b] 50) = W1 at *
  generalize w.heap.size = O at *
  go_quiet (fail)
  have HP2 : Hid (Play w0 (W1.drewN nq) P av bv its) := HP.out.new (chg_drewN _ _)
  clear c0 c1 c2 pb
  go_wp2
  go_ret
  exact ⟨rfl, HP2.out⟩


set_option maxHeartbeats 4000000 in
set_option maxRecDepth 100000 in
theorem step_new_out (w0 w : World) (P : Nat) (av bv : Value) (its : List It) (t i b : Int) (h : Play w0 w P av bv its) (hn : its.length ≤ 4398046510976) (hi : i < 0 ∨ 1048576 < i) : Calls Try.prog 19 #[.pointer (some ⟨P, 0, none⟩), .agg #[.int .i64 0, .int .i64 t, .int .i64 i, .int .i64 b]] w fun e w' => e = .returned (.bool true) ∧ Play w0 w' P av bv its := by
  have hcW := chg_one w (.cells #[.int .i64 0, .int .i64 t, .int .i64 i, .int .i64 b] 50)
  have hb := heap_alloc_last w (.cells #[.int .i64 0, .int .i64 t, .int .i64 i, .int .i64 b] 50)
  have pb := cell_chg (cell1 h.pair) hcW
  obtain ⟨bad, bcap, hbv, _⟩ := own_any h.rb
  rw [hbv] at pb
  have HP : Hid (Play w0 (w.alloc (.cells #[.int .i64 0, .int .i64 t, .int .i64 i, .int .i64 b] 50)) P av bv its) := h.new hcW
  clear h hbv
  go_enter Try.func19, Try.ntmps19
  go_wp2_with fail
  have c0 : (w.alloc (.cells #[.int .i64 0, .int .i64 t, .int .i64 i, .int .i64 b] 50)).cell? ⟨w.heap.size, 0, none⟩ = some (.int .i64 0) := by simp only [World.cell?, hb]; rfl
  have c1 : (w.alloc (.cells #[.int .i64 0, .int .i64 t, .int .i64 i, .int .i64 b] 50)).cell? ⟨w.heap.size, 1, none⟩ = some (.int .i64 t) := by simp only [World.cell?, hb]; rfl
  have c2 : (w.alloc (.cells #[.int .i64 0, .int .i64 t, .int .i64 i, .int .i64 b] 50)).cell? ⟨w.heap.size, 2, none⟩ = some (.int .i64 i) := by simp only [World.cell?, hb]; rfl
  clear hb hcW
  generalize w.alloc (.cells #[.int .i64 0, .int .i64 t, .int .i64 i, .int .i64 b] 50) = W1 at *
  generalize w.heap.size = O at *
  refine (made_out P i _ hi).mono ?_
  rintro e W2 ⟨rfl, rfl⟩
  clear c0 c1 c2 pb
  go_wp2
  go_ret
  exact ⟨rfl, HP.out⟩


set_option maxHeartbeats 4000000 in
set_option maxRecDepth 100000 in
theorem step_new_in (w0 w : World) (P : Nat) (av bv : Value) (its : List It) (t i b : Int) (h : Play w0 w P av bv its) (hn : its.length ≤ 4398046510976) (m : Nat) (hm : m ≤ 1048576) (him : Hid (i = m)) : Calls Try.prog 19 #[.pointer (some ⟨P, 0, none⟩), .agg #[.int .i64 0, .int .i64 t, .int .i64 i, .int .i64 b]] w fun e w' => e = .returned (.bool true) ∧ ∃ av' bv' x, Play w0 w' P av' bv' (its ++ [x]) := by
  have hcW := chg_one w (.cells #[.int .i64 0, .int .i64 t, .int .i64 i, .int .i64 b] 50)
  have hb := heap_alloc_last w (.cells #[.int .i64 0, .int .i64 t, .int .i64 i, .int .i64 b] 50)
  have pb := cell_chg (cell1 h.pair) hcW
  obtain ⟨bad, bcap, hbv, _⟩ := own_any h.rb
  rw [hbv] at pb
  have HP : Hid (Play w0 (w.alloc (.cells #[.int .i64 0, .int .i64 t, .int .i64 i, .int .i64 b] 50)) P av bv its) := h.new hcW
  clear h hbv
  go_enter Try.func19, Try.ntmps19
  go_wp2_with fail
  have c0 : (w.alloc (.cells #[.int .i64 0, .int .i64 t, .int .i64 i, .int .i64 b] 50)).cell? ⟨w.heap.size, 0, none⟩ = some (.int .i64 0) := by simp only [World.cell?, hb]; rfl
  have c1 : (w.alloc (.cells #[.int .i64 0, .int .i64 t, .int .i64 i, .int .i64 b] 50)).cell? ⟨w.heap.size, 1, none⟩ = some (.int .i64 t) := by simp only [World.cell?, hb]; rfl
  have c2 : (w.alloc (.cells #[.int .i64 0, .int .i64 t, .int .i64 i, .int .i64 b] 50)).cell? ⟨w.heap.size, 2, none⟩ = some (.int .i64 i) := by simp only [World.cell?, hb]; rfl
  clear hb hcW
  generalize w.alloc (.cells #[.int .i64 0, .int .i64 t, .int .i64 i, .int .i64 b] 50) = W1 at *
  generalize w.heap.size = O at *
  rw [him.out]
  refine (made_in w0 _ P av bv its m HP.out hm hn).mono ?_
  rintro e W2 ⟨rfl, av', bv', x, h2⟩
  have H2 : Hid (Play w0 W2 P av' bv' (its ++ [x])) := h2
  clear c0 c1 c2 pb h2
  go_wp2
  go_ret
  exact ⟨rfl, av', bv', x, H2.out⟩


set_option maxHeartbeats 4000000 in
set_option maxRecDepth 100000 in
theorem step_other (w0 w : World) (P : Nat) (av bv : Value) (its : List It) (s : Nat) (k i b : Int) (h : Play w0 w P av bv its) (hs : s < its.length) (hn : its.length ≤ 4398046510976) (h0 : k ≠ 0) (h1 : k ≠ 1) (h2 : k ≠ 2) (h3 : k ≠ 3) (h4 : k ≠ 4) (h5 : k ≠ 5) : Calls Try.prog 19 #[.pointer (some ⟨P, 0, none⟩), .agg #[.int .i64 k, .int .i64 (s : Int), .int .i64 i, .int .i64 b]] w fun e w' => e = .returned (.bool true) ∧ Play w0 w' P av bv its := by
  have hs0 : w0.heap.size ≤ w.heap.size := h.chg.size
  have hPl := lt_of_blk h.pair
  have hdS : decide ((s : Int) < 0) = false := by simp
  have hdL : decide (its.length ≤ s) = false := by simp; omega
  have hcW := chg_one w (.cells #[.int .i64 k, .int .i64 (s : Int), .int .i64 i, .int .i64 b] 50)
  have hb := heap_alloc_last w (.cells #[.int .i64 k, .int .i64 (s : Int), .int .i64 i, .int .i64 b] 50)
  obtain ⟨ga, capa, hav, hcapa, hA⟩ := h.a_at (by omega)
  obtain ⟨gb, capb, hbv, hcapb, hB⟩ := h.b_at (by omega)
  have pa := cell_chg (cell0 h.pair) hcW
  have pb := cell_chg (cell1 h.pair) hcW
  have xa := cell_chg (hA s hs) hcW
  have xb := cell_chg (hB s hs) hcW
  rw [hav] at pa
  rw [hbv] at pb
  have HP : Hid (Play w0 w P av bv its) := h
  have HFO : Hid (∀ z, Foots its[s] z → z ≠ w.heap.size) := fun z f => by
    rcases f with f | f
    · have := ((h.good s hs).st.own.lt z f).2
      omega
    · have := ((h.good s hs).rt.own.lt z f).2
      omega
  clear h hA hB hav hbv
  go_enter Try.func19, Try.ntmps19
  go_wp2_with fail
  have c0 : (w.alloc (.cells #[.int .i64 k, .int .i64 (s : Int), .int .i64 i, .int .i64 b] 50)).cell? ⟨w.heap.size, 0, none⟩ = some (.int .i64 k) := by simp only [World.cell?, hb]; rfl
  have c1 : (w.alloc (.cells #[.int .i64 k, .int .i64 (s : Int), .int .i64 i, .int .i64 b] 50)).cell? ⟨w.heap.size, 1, none⟩ = some (.int .i64 (s : Int)) := by simp only [World.cell?, hb]; rfl
  have c2 : (w.alloc (.cells #[.int .i64 k, .int .i64 (s : Int), .int .i64 i, .int .i64 b] 50)).cell? ⟨w.heap.size, 2, none⟩ = some (.int .i64 i) := by simp only [World.cell?, hb]; rfl
  have c3 : (w.alloc (.cells #[.int .i64 k, .int .i64 (s : Int), .int .i64 i, .int .i64 b] 50)).cell? ⟨w.heap.size, 3, none⟩ = some (.int .i64 b) := by simp only [World.cell?, hb]; rfl
  have HC : Hid (Chg (fun _ => False) w (w.alloc (.cells #[.int .i64 k, .int .i64 (s : Int), .int .i64 i, .int .i64 b] 50))) := hcW
  clear hb hcW
  generalize w.alloc (.cells #[.int .i64 k, .int .i64 (s : Int), .int .i64 i, .int .i64 b] 50) = W1 at *
  generalize w.heap.size = O at *
  go_quiet (fail)
  have HC2 : Hid (Chg (fun _ => False) w (W1.drewN nq)) := chg_then HC.out (chg_drewN W1 nq)
  have c02 := cell_chg c0 (chg_drewN W1 nq)
  have c12 := cell_chg c1 (chg_drewN W1 nq)
  have c22 := cell_chg c2 (chg_drewN W1 nq)
  have c32 := cell_chg c3 (chg_drewN W1 nq)
  have pa2 := cell_chg pa (chg_drewN W1 nq)
  have pb2 := cell_chg pb (chg_drewN W1 nq)
  have xa2 := cell_chg xa (chg_drewN W1 nq)
  have xb2 := cell_chg xb (chg_drewN W1 nq)
  clear c0 c1 c2 c3 pa pb xa xb HC
  generalize W1.drewN nq = W2 at *
  go_wp2_with fail
  go_quiet (fail)
  have HC3 : Hid (Chg (fun _ => False) w (W2.drewN nq)) := chg_then HC2.out (chg_drewN W2 nq)
  have c03 := cell_chg c02 (chg_drewN W2 nq)
  have c13 := cell_chg c12 (chg_drewN W2 nq)
  have c23 := cell_chg c22 (chg_drewN W2 nq)
  have c33 := cell_chg c32 (chg_drewN W2 nq)
  have pa3 := cell_chg pa2 (chg_drewN W2 nq)
  have pb3 := cell_chg pb2 (chg_drewN W2 nq)
  have xa3 := cell_chg xa2 (chg_drewN W2 nq)
  have xb3 := cell_chg xb2 (chg_drewN W2 nq)
  clear c02 c12 c22 c32 pa2 pb2 xa2 xb2 HC2
  generalize W2.drewN nq = W3 at *
  go_wp2_with fail
  go_quiet (fail)
  have HC4 : Hid (Chg (fun _ => False) w (W3.drewN nq)) := chg_then HC3.out (chg_drewN W3 nq)
  have c04 := cell_chg c03 (chg_drewN W3 nq)
  have c14 := cell_chg c13 (chg_drewN W3 nq)
  have c24 := cell_chg c23 (chg_drewN W3 nq)
  have c34 := cell_chg c33 (chg_drewN W3 nq)
  have pa4 := cell_chg pa3 (chg_drewN W3 nq)
  have pb4 := cell_chg pb3 (chg_drewN W3 nq)
  have xa4 := cell_chg xa3 (chg_drewN W3 nq)
  have xb4 := cell_chg xb3 (chg_drewN W3 nq)
  clear c03 c13 c23 c33 pa3 pb3 xa3 xb3 HC3
  generalize W3.drewN nq = W4 at *
  have HP4 : Hid (Play w0 W4 P av bv its) := HP.out.new HC4.out
  clear xa4 xb4 pa4 pb4
  go_wp2_with fail
  go_ret
  exact ⟨rfl, HP4.out⟩

end Go.Proofs.Ytloenokbkmhceaa
