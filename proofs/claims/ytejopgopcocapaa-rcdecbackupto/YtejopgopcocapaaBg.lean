/- The walk of RcdecBegins above what is asked of the decoder; of no statement by itself. -/
import Derived.Test.YtejopgopcocapaaAg
namespace Go.Proofs.Ytejopgopcocapaa
open Go.RowKit
set_option linter.unusedVariables false

/-- Where not all is answered, the next question is refused. -/
theorem decL_stop (b : List Nat) : ∀ (l : List Q) (d : Rc.D) (xs : List Int), (decL b l d xs).1.length < l.length → ∃ q e, l[(decL b l d xs).1.length]? = some q ∧ decA b q (decL b l d xs).2.1 (decL b l d xs).2.2.1 = .error e
  | [], d, xs, h => by simp at h
  | q :: l, d, xs, h => by
    unfold decL at h ⊢
    cases e : decA b q d xs with
    | error x => exact ⟨q, x, rfl, e⟩
    | ok r =>
      obtain ⟨v, d', xs'⟩ := r
      rw [e] at h
      obtain ⟨q', e', h1, h2⟩ := decL_stop b l d' xs' (by simpa using h)
      exact ⟨q', e', by simpa using h1, h2⟩
theorem decL_ok2 {bs : List Nat} (hdig : Rc.Dig bs) : ∀ (l : List Q) {d : Rc.D} {xs : List Int}, OkD bs d → In31 xs → OkD bs (decL bs l d xs).2.1 ∧ In31 (decL bs l d xs).2.2.1 ∧ (decL bs l d xs).2.2.1.length = xs.length
  | [], d, xs, hO, hI => ⟨hO, hI, rfl⟩
  | q :: l, d, xs, hO, hI => by
    unfold decL
    cases e : decA bs q d xs with
    | error x => exact ⟨hO, hI, rfl⟩
    | ok r =>
      obtain ⟨v, d', xs'⟩ := r
      obtain ⟨h1, h2, h3, h4, h5⟩ := decA_ok hdig hO hI e
      obtain ⟨k1, k2, k3⟩ := decL_ok2 hdig l h3 h4
      exact ⟨k1, k2, by rw [← h5]; exact k3⟩
theorem decL_one_err {b : List Nat} {q : Q} {d : Rc.D} {xs : List Int} {e : Nat} (h : decA b q d xs = .error e) : decL b [q] d xs = ([], d, xs, false) := by
  unfold decL
  rw [h]
theorem dig_take {b : List Nat} (h : Rc.Dig b) (k : Nat) : Rc.Dig (b.take k) := fun x hx => h x (List.mem_of_mem_take hx)
theorem code_take {b : List Nat} {k : Nat} (hk : 5 ≤ k) : Rc.code5 (b.take k) = Rc.code5 b ∧ (b.take k).getD 0 0 = b.getD 0 0 := by
  have e : ∀ i, i < 5 → (b.take k).getD i 0 = b.getD i 0 := fun i hi => by rw [List.getD_eq_getElem?_getD, List.getD_eq_getElem?_getD, List.getElem?_take, if_pos (by omega)]
  unfold Rc.code5
  rw [e 0 (by omega), e 1 (by omega), e 2 (by omega), e 3 (by omega), e 4 (by omega)]
  exact ⟨rfl, rfl⟩
theorem row8_take {w : World} {ab : Option Addr} {n c : Nat} {bs : List Nat} (h : Row8 w ab n c (nums bs)) (k : Nat) (hk : k ≤ n) (c' : Nat) (hc : ab = none → c' = 0) : Row8 w ab k c' (nums (bs.take k)) := by
  have hl : bs.length = n := by have := h.1; rw [nums_len] at this; exact this
  refine ⟨by rw [nums_len, List.length_take]; omega, ?_⟩
  rcases h.2 with ⟨e, h1, h2⟩ | ⟨x, e, hx⟩
  · exact .inl ⟨e, by omega, hc e⟩
  · refine .inr ⟨x, e, fun j u hu => hx j u ?_⟩
    simp only [nums, List.map_take, List.getElem?_take] at hu ⊢
    split at hu
    · exact hu
    · cases hu
set_option maxHeartbeats 8000000 in
set_option maxRecDepth 100000 in
theorem begins_any {Dec : World → Nat → Nat → Value → List Nat → Rc.D → Prop} (S : DecSpec Dec) (x : Addr) (nb cb : Nat) (bs : List Nat) (cut n : Int) (av : Option Addr) (L cv : Nat) (l : List Q) (w0 : World) (hb : Row8 w0 (some x) nb cb (nums bs)) (hdig : Rc.Dig bs) (hnb : nb ≤ 140737488355328) (hcb : nb ≤ cb) (hA : Asks w0 av l) (hL : l.length = L) (hl : L ≤ 4398046510976) : Calls Try.prog 3 #[.slice (some x) nb cb, .int .i64 cut, .agg #[.int .i64 n, .slice av L cv]] w0 fun x w' => x = .returned (.bool true) ∧ Chg (fun _ => False) w0 w' := by
  have HA0 : Hid (Asks w0 av l) := hA
  have HLL : Hid (l.length = L) := hL
  have HB0 : Hid (Row8 w0 (some x) nb cb (nums bs)) := hb
  have HBL : Hid (bs.length = nb) := by have := hb.1; rw [nums_len] at this; exact this
  clear hA hL hb
  by_cases hn0 : n < 0
  · have hbx : (w0.alloc (.cells #[.int .i64 n, .slice av L cv] 25)).heap[w0.heap.size]? = some (.cells #[.int .i64 n, .slice av L cv] 25 (0, 0)) := heap_alloc_last w0 _
    have x0 := cell0 hbx
    have x1 := cell1 hbx
    have HCX : Hid (Chg (fun _ => False) w0 (w0.alloc (.cells #[.int .i64 n, .slice av L cv] 25))) := chg_one w0 _
    clear hbx
    go_enter Try.func3, Try.ntmps3
    go_wp2_with fail
    go_quiet (fail)
    clear x0 x1
    go_wp2_with fail
    refine (known_any S _).mono ?_
    rintro z w1 ⟨rfl, c1⟩
    have HCE : Hid (Chg (fun _ => False) w0 w1) := chg_then HCX.out (chg_then (chg_drewN _ _) c1)
    clear c1
    go_wp2
    go_ret
    exact ⟨rfl, HCE.out⟩
  by_cases hn64 : 64 < n
  · have hd0 : decide (n < 0) = false := by simp; omega
    have hbx : (w0.alloc (.cells #[.int .i64 n, .slice av L cv] 25)).heap[w0.heap.size]? = some (.cells #[.int .i64 n, .slice av L cv] 25 (0, 0)) := heap_alloc_last w0 _
    have x0 := cell0 hbx
    have x1 := cell1 hbx
    have HCX : Hid (Chg (fun _ => False) w0 (w0.alloc (.cells #[.int .i64 n, .slice av L cv] 25))) := chg_one w0 _
    clear hbx
    go_enter Try.func3, Try.ntmps3
    go_wp2_with fail
    go_quiet (fail)
    clear x0 x1
    go_wp2_with fail
    refine (known_any S _).mono ?_
    rintro z w1 ⟨rfl, c1⟩
    have HCE : Hid (Chg (fun _ => False) w0 w1) := chg_then HCX.out (chg_then (chg_drewN _ _) c1)
    clear c1
    go_wp2
    go_ret
    exact ⟨rfl, HCE.out⟩
  by_cases hc0 : cut < 0
  · have hd0 : decide (n < 0) = false := by simp; omega
    have hd1 : decide (64 < n) = false := by simp; omega
    have hbx : (w0.alloc (.cells #[.int .i64 n, .slice av L cv] 25)).heap[w0.heap.size]? = some (.cells #[.int .i64 n, .slice av L cv] 25 (0, 0)) := heap_alloc_last w0 _
    have x0 := cell0 hbx
    have x1 := cell1 hbx
    have HCX : Hid (Chg (fun _ => False) w0 (w0.alloc (.cells #[.int .i64 n, .slice av L cv] 25))) := chg_one w0 _
    clear hbx
    go_enter Try.func3, Try.ntmps3
    go_wp2_with fail
    go_quiet (fail)
    clear x0 x1
    go_wp2_with fail
    refine (known_any S _).mono ?_
    rintro z w1 ⟨rfl, c1⟩
    have HCE : Hid (Chg (fun _ => False) w0 w1) := chg_then HCX.out (chg_then (chg_drewN _ _) c1)
    clear c1
    go_wp2
    go_ret
    exact ⟨rfl, HCE.out⟩
  by_cases hcn : (nb : Int) < cut
  · have hd0 : decide (n < 0) = false := by simp; omega
    have hd1 : decide (64 < n) = false := by simp; omega
    have hd2 : decide (cut < 0) = false := by simp; omega
    have hbx : (w0.alloc (.cells #[.int .i64 n, .slice av L cv] 25)).heap[w0.heap.size]? = some (.cells #[.int .i64 n, .slice av L cv] 25 (0, 0)) := heap_alloc_last w0 _
    have x0 := cell0 hbx
    have x1 := cell1 hbx
    have HCX : Hid (Chg (fun _ => False) w0 (w0.alloc (.cells #[.int .i64 n, .slice av L cv] 25))) := chg_one w0 _
    clear hbx
    go_enter Try.func3, Try.ntmps3
    go_wp2_with fail
    go_quiet (fail)
    clear x0 x1
    go_wp2_with fail
    refine (known_any S _).mono ?_
    rintro z w1 ⟨rfl, c1⟩
    have HCE : Hid (Chg (fun _ => False) w0 w1) := chg_then HCX.out (chg_then (chg_drewN _ _) c1)
    clear c1
    go_wp2
    go_ret
    exact ⟨rfl, HCE.out⟩
  obtain ⟨N, rfl⟩ := Int.eq_ofNat_of_zero_le (show 0 ≤ n by omega)
  obtain ⟨C, rfl⟩ := Int.eq_ofNat_of_zero_le (show 0 ≤ cut by omega)
  have hd0 : decide ((N : Int) < 0) = false := by simp
  have hd1 : decide ((64 : Int) < (N : Int)) = false := by simp; omega
  have hd2 : decide ((C : Int) < 0) = false := by simp
  have hd3 : decide ((nb : Int) < (C : Int)) = false := by simp; omega
  clear hn0 hc0
  have hbx : (w0.alloc (.cells #[.int .i64 (N : Int), .slice av L cv] 25)).heap[w0.heap.size]? = some (.cells #[.int .i64 (N : Int), .slice av L cv] 25 (0, 0)) := heap_alloc_last w0 _
  have x0 := cell0 hbx
  have x1 := cell1 hbx
  have HCX : Hid (Chg (fun _ => False) w0 (w0.alloc (.cells #[.int .i64 (N : Int), .slice av L cv] 25))) := chg_one w0 _
  clear hbx
  go_enter Try.func3, Try.ntmps3
  go_wp2_with fail
  go_quiet (fail)
  clear x0 x1
  generalize hW : (World.drewN _ _) = W1
  have HCW : Hid (Chg (fun _ => False) w0 W1) := by show Chg _ _ _; rw [← hW]; exact chg_then HCX.out (chg_drewN _ _)
  clear hW HCX
  go_wp2_with fail
  refine (S.new (some x) nb cb bs _ (Bk.row8_chg HB0.out HCW.out) hdig hnb).mono ?_
  have HTL : Hid ((bs.take C).length = C) := by have := HBL.out; show _ = _; rw [List.length_take]; omega
  rintro z w1 (⟨h1, rfl, c1⟩ | ⟨h1, h2, rfl, c1⟩ | ⟨h1, h2, h3, a, v, rfl, hD1, c1⟩)
  · have HC1 : Hid (Chg (fun _ => False) w0 w1) := chg_then HCW.out c1
    clear c1
    go_wp2_with fail
    refine (S.new (some x) C cb (bs.take C) _ (row8_take (Bk.row8_chg HB0.out HC1.out) C (by omega) cb (fun f => by cases f)) (dig_take hdig C) (by omega)).mono ?_
    rintro z w2 (⟨h4, rfl, c2⟩ | ⟨h4, h5, rfl, c2⟩ | ⟨h4, h5, h6, ac, vc, rfl, hD2, c2⟩)
    · have HC2 : Hid (Chg (fun _ => False) w0 w2) := chg_then HC1.out c2
      have hC5 : (C : Int) < 5 := by have := HTL.out; omega
      clear c2 h4
      go_wp2_with fail
      refine (num_any _ _).mono ?_
      rintro z w9 ⟨rfl, rfl⟩
      go_wp2
      go_ret
      exact ⟨rfl, HC2.out⟩
    · exfalso; have := HTL.out; have := HBL.out; omega
    · exfalso; have := HTL.out; have := HBL.out; omega
  · have HC1 : Hid (Chg (fun _ => False) w0 w1) := chg_then HCW.out c1
    have HBAD : Hid (bs.getD 0 0 ≠ 0 ∨ Rc.code5 bs = 4294967295) := h2
    clear c1 h2
    go_wp2_with fail
    refine (S.new (some x) C cb (bs.take C) _ (row8_take (Bk.row8_chg HB0.out HC1.out) C (by omega) cb (fun f => by cases f)) (dig_take hdig C) (by omega)).mono ?_
    rintro z w2 (⟨h4, rfl, c2⟩ | ⟨h4, h5, rfl, c2⟩ | ⟨h4, h5, h6, ac, vc, rfl, hD2, c2⟩)
    · have HC2 : Hid (Chg (fun _ => False) w0 w2) := chg_then HC1.out c2
      have hC5 : (C : Int) < 5 := by have := HTL.out; omega
      clear c2 h4
      go_wp2_with fail
      refine (num_any _ _).mono ?_
      rintro z w9 ⟨rfl, rfl⟩
      go_wp2
      go_ret
      exact ⟨rfl, HC2.out⟩
    · have HC2 : Hid (Chg (fun _ => False) w0 w2) := chg_then HC1.out c2
      obtain ⟨x', e', hcell⟩ := Bk.row8_cells HB0.out (by have := HBL.out; omega)
      cases e'
      have hat : ∀ k, (nums bs).getD k 0 = ((bs.getD k 0 : Nat) : Int) := fun k => by simp [nums, List.getD_eq_getElem?_getD]; cases bs[k]? <;> rfl
      obtain ⟨b, hbb⟩ : ∃ b : Nat, bs.getD 0 0 = b := ⟨_, rfl⟩
      obtain ⟨e1, hee⟩ : ∃ b : Nat, bs.getD 1 0 = b := ⟨_, rfl⟩
      have hb5 : 5 ≤ nb := by have := HBL.out; omega
      have hx0 : w2.cell? x = some (.int .u8 (b : Int)) := by have h9 := cell_chg (hcell 0 (by omega)) HC2.out; rw [hat, hbb] at h9; exact h9
      have hx1 : w2.cell? ⟨x.block, x.off + 1, none⟩ = some (.int .u8 (e1 : Int)) := by have h9 := cell_chg (hcell 1 (by omega)) HC2.out; rw [hat, hee] at h9; exact h9
      have h0n : (0 : Int) < (nb : Int) := by omega
      have h0n2 : 0 < nb := by omega
      have h1n : (1 : Int) < (nb : Int) := by omega
      have h1n2 : 1 < nb := by omega
      by_cases hbz : b = 0
      · have hcode : Rc.code5 bs = 4294967295 := by rcases HBAD.out with h9 | h9; exact absurd (hbb.trans hbz) h9; exact h9
        have d1 := dig_at hdig 1
        have d2 := dig_at hdig 2
        have d3 := dig_at hdig 3
        have d4 := dig_at hdig 4
        have he1 : e1 = 255 := by unfold Rc.code5 at hcode; omega
        subst hbz he1
        clear c2 h1 h4 h5 hcode d1 d2 d3 d4 hat hcell hbb hee
        go_wp2_with fail
        refine (num_any _ _).mono ?_
        rintro z w9 ⟨rfl, rfl⟩
        go_wp2_with fail
        refine (num_any _ _).mono ?_
        rintro z w9 ⟨rfl, rfl⟩
        go_wp2_with fail
        refine (num_any _ _).mono ?_
        rintro z w9 ⟨rfl, rfl⟩
        go_wp2_with fail
        refine (num_any _ _).mono ?_
        rintro z w9 ⟨rfl, rfl⟩
        go_wp2_with fail
        refine (num_any _ _).mono ?_
        rintro z w9 ⟨rfl, rfl⟩
        go_wp2
        go_ret
        exact ⟨rfl, HC2.out⟩
      · have hdb : decide ((b : Int) = 0) = false := by simp; omega
        have hbe : ((b : Int) == 0) = false := beq_eq_false_iff_ne.2 (by omega)
        clear c2 h1 h4 h5 hat hcell hbb hee
        go_wp2_with fail
        refine (num_any _ _).mono ?_
        rintro z w9 ⟨rfl, rfl⟩
        go_wp2_with fail
        refine (num_any _ _).mono ?_
        rintro z w9 ⟨rfl, rfl⟩
        go_wp2_with fail
        refine (num_any _ _).mono ?_
        rintro z w9 ⟨rfl, rfl⟩
        go_wp2_with fail
        refine (num_any _ _).mono ?_
        rintro z w9 ⟨rfl, rfl⟩
        go_wp2_with fail
        refine (num_any _ _).mono ?_
        rintro z w9 ⟨rfl, rfl⟩
        go_wp2
        go_ret
        exact ⟨rfl, HC2.out⟩
    · exfalso
      have := HTL.out
      obtain ⟨k1, k2⟩ := code_take (b := bs) (k := C) (by omega)
      rw [k1] at h6
      rw [k2] at h5
      rcases HBAD.out with h9 | h9
      · exact h9 h5
      · omega
  · have HC1 : Hid (Chg (fun _ => False) w0 w1) := chg_then HCW.out c1
    have HGOOD : Hid (bs.getD 0 0 = 0 ∧ Rc.code5 bs < 4294967295) := ⟨h2, h3⟩
    have HD1 : Hid (Dec w1 w0.heap.size a v bs ⟨5, 4294967295, Rc.code5 bs⟩) := S.down hD1 HCW.out.size
    have HO1 : Hid (OkD bs ⟨5, 4294967295, Rc.code5 bs⟩) := ⟨by show 16777216 ≤ 4294967295; omega, by show 4294967295 ≤ 4294967295; omega, h3, h1⟩
    clear c1 h2 h3 hD1
    go_wp2_with fail
    refine (S.new (some x) C cb (bs.take C) _ (row8_take (Bk.row8_chg HB0.out HC1.out) C (by omega) cb (fun f => by cases f)) (dig_take hdig C) (by omega)).mono ?_
    rintro z w2 (⟨h4, rfl, c2⟩ | ⟨h4, h5, rfl, c2⟩ | ⟨h4, h5, h6, ac, vc, rfl, hD2, c2⟩)
    · have HC2 : Hid (Chg (fun _ => False) w0 w2) := chg_then HC1.out c2
      have hC5 : (C : Int) < 5 := by have := HTL.out; omega
      clear c2 h4
      go_wp2_with fail
      refine (num_any _ _).mono ?_
      rintro z w9 ⟨rfl, rfl⟩
      go_wp2
      go_ret
      exact ⟨rfl, HC2.out⟩
    · exfalso
      have := HTL.out
      obtain ⟨k1, k2⟩ := code_take (b := bs) (k := C) (by omega)
      rw [k1, k2] at h5
      rcases h5 with h9 | h9
      · exact h9 HGOOD.out.1
      · have := HGOOD.out.2; omega
    · have HTC := code_take (b := bs) (k := C) (by have := HTL.out; omega)
      have HC2 : Hid (Chg (fun _ => False) w0 w2) := chg_then HC1.out c2
      have HD2 : Hid (Dec w2 w1.heap.size ac vc (bs.take C) ⟨5, 4294967295, Rc.code5 bs⟩) := by show Dec _ _ _ _ _ _; rw [← HTC.1]; exact hD2
      have HO2 : Hid (OkD (bs.take C) ⟨5, 4294967295, Rc.code5 bs⟩) := ⟨by show 16777216 ≤ 4294967295; omega, by show 4294967295 ≤ 4294967295; omega, HGOOD.out.2, by show 5 ≤ _; exact h4⟩
      have HDd : Hid (Dec w2 w0.heap.size a v bs ⟨5, 4294967295, Rc.code5 bs⟩) := S.keep HD1.out c2 (fun f => f) (fun _ _ f => f)
      have HAL : Hid (a < w1.heap.size ∧ ∀ g, v.ownBlock = some g → g < w1.heap.size) := ⟨by obtain ⟨cs, hb⟩ := S.blk HD1.out; exact lt_of_blk hb, fun g eg => ((S.own HD1.out).lt g eg).2⟩
      have HACL : Hid (ac < w2.heap.size ∧ w1.heap.size ≤ ac) := ⟨by obtain ⟨cs, hb⟩ := S.blk HD2.out; exact lt_of_blk hb, S.base HD2.out⟩
      have HVC : Hid (∀ g, vc.ownBlock = some g → w1.heap.size ≤ g ∧ g < w2.heap.size) := fun g eg => (S.own HD2.out).lt g eg
      clear h1 h4 h5 h6 hD2 c2 HD1 HTC
      go_wp2_with fail
      refine (num_any _ _).mono ?_
      rintro z w9 ⟨rfl, rfl⟩
      go_wp2_with fail
      refine (num_any _ _).mono ?_
      rintro z w9 ⟨rfl, rfl⟩
      go_wp2_with fail
      refine (num_any _ _).mono ?_
      rintro z w9 ⟨rfl, rfl⟩
      go_wp2_with fail
      refine (num_any _ _).mono ?_
      rintro z w9 ⟨rfl, rfl⟩
      go_wp2_with fail
      refine (new_in N _ (by omega)).mono ?_
      rintro z w3 ⟨s, us, rfl, hs, hS3, c3⟩
      have HS3 : Hid (St w3 w2.heap.size s us (List.replicate N 1024)) := hS3
      have HC23 : Hid (Chg (fun _ => False) w2 w3) := c3
      clear hS3 c3 hs
      go_wp2_with fail
      refine (new_in N _ (by omega)).mono ?_
      rintro z w4 ⟨t, ut, rfl, ht, hT4, c4⟩
      have HT4 : Hid (St w4 w3.heap.size t ut (List.replicate N 1024)) := hT4
      have HS4 : Hid (St w4 w2.heap.size s us (List.replicate N 1024)) := HS3.out.new c4
      have HSL : Hid (s < w3.heap.size ∧ w2.heap.size ≤ s ∧ ∀ g, us.ownBlock = some g → w2.heap.size ≤ g ∧ g < w3.heap.size) := ⟨lt_of_blk HS3.out.blk, HS3.out.ha, fun g eg => HS3.out.own.lt g eg⟩
      have HC24 : Hid (Chg (fun _ => False) w2 w4) := chg_then HC23.out c4
      have HD4 : Hid (Dec w4 w1.heap.size ac vc (bs.take C) ⟨5, 4294967295, Rc.code5 bs⟩) := S.keep HD2.out HC24.out (fun f => f) (fun _ _ f => f)
      have HDd4 : Hid (Dec w4 w0.heap.size a v bs ⟨5, 4294967295, Rc.code5 bs⟩) := S.keep HDd.out HC24.out (fun f => f) (fun _ _ f => f)
      have HC4 : Hid (Chg (fun _ => False) w0 w4) := chg_then HC2.out HC24.out
      have hz23 := HC23.out.size
      have hz34 := c4.size
      have hz01 := HC1.out.size
      clear hT4 c4 ht HD2 HDd HS3
      go_wp2_with fail
      refine (num_any _ _).mono ?_
      rintro z w9 ⟨rfl, rfl⟩
      go_wp2_with fail
      refine (num_any _ _).mono ?_
      rintro z w9 ⟨rfl, rfl⟩
      have hz12 : w1.heap.size ≤ w2.heap.size := by have := HACL.out; omega
      go_wp2_with fail
      refine (answered_any S w1.heap.size w3.heap.size ac t vc ut (bs.take C) ⟨5, 4294967295, Rc.code5 bs⟩ (List.replicate N 1024) av L cv l _ HD4.out HO2.out (dig_take hdig C) (by rw [HTL.out]; omega) HT4.out (In31.half N) (by omega) (HA0.out.new HC4.out) HLL.out hl ?_).mono ?_
      · intro y ey hne f
        have h9 := HA0.out.old y ey hne
        rcases f with f | f
        · have := HACL.out.2
          omega
        · have := (HT4.out.own.lt _ f).1
          omega
      rintro z w5 ⟨lx, rfl, hT5⟩
      have FT : ∀ z, Fd ac ut z → z = ac ∨ w3.heap.size ≤ z := fun z f => f.elim .inl (fun f => .inr (HT4.out.own.lt z f).1)
      have HDd5 : Hid (Dec w5 w0.heap.size a v bs ⟨5, 4294967295, Rc.code5 bs⟩) := S.keep HDd4.out hT5.chg (fun f => by have := FT _ f; have := HAL.out.1; have := HACL.out; omega) (fun g eg f => by have := FT _ f; have := HAL.out.2 g eg; have := HACL.out; omega)
      have HS5 : Hid (St w5 w2.heap.size s us (List.replicate N 1024)) := HS4.out.keep hT5.chg (fun f => by have := FT _ f; have := HSL.out; have := HACL.out; omega) (fun g eg f => by have := FT _ f; have := HSL.out.2.2 g eg; have := HACL.out; omega)
      have HC5 : Hid (Chg (fun _ => False) w0 w5) := HC4.out.trans hT5.chg (fun z f => .inr (by have := FT _ f; have := HACL.out; omega))
      have hz45 := hT5.chg.size
      have HT5 : Hid (Told Dec w4 w5 w1.heap.size w3.heap.size ac t vc ut (bs.take C) (decL (bs.take C) l ⟨5, 4294967295, Rc.code5 bs⟩ (List.replicate N 1024)) lx) := hT5
      have HTL5 : Hid (t < w5.heap.size ∧ ∀ g, ut.ownBlock = some g → g < w4.heap.size) := ⟨lt_of_blk hT5.st.blk, fun g eg => (HT4.out.own.lt g eg).2⟩
      clear hT5 HDd4 HS4
      obtain ⟨la, lc, hlx⟩ := form1 HT5.out.row
      obtain ⟨R, hR⟩ : ∃ R, decL (bs.take C) l ⟨5, 4294967295, Rc.code5 bs⟩ (List.replicate N 1024) = R := ⟨_, rfl⟩
      have HRR : Hid (decL (bs.take C) l ⟨5, 4294967295, Rc.code5 bs⟩ (List.replicate N 1024) = R) := hR
      rw [hR] at HT5 hlx ⊢
      obtain ⟨V, hV⟩ : ∃ V, R.1.length = V := ⟨_, rfl⟩
      have HV : Hid (R.1.length = V) := hV
      rw [hV] at hlx
      subst hlx
      clear hR hV
      go_wp2_with fail
      refine (answered_any S w0.heap.size w2.heap.size a s v us bs ⟨5, 4294967295, Rc.code5 bs⟩ (List.replicate N 1024) av L cv l _ HDd5.out HO1.out hdig (by rw [HBL.out]; exact hnb) HS5.out (In31.half N) HC5.out.size (HA0.out.new HC5.out) HLL.out hl ?_).mono ?_
      · intro y ey hne f
        have h9 := HA0.out.old y ey hne
        rcases f with f | f
        · have := S.base HDd5.out
          omega
        · have := (HS5.out.own.lt _ f).1
          omega
      rintro z w6 ⟨ly, rfl, hT6⟩
      have hpre := (pre_take bs C).all l ⟨5, 4294967295, Rc.code5 bs⟩ (List.replicate N 1024)
      obtain ⟨T, hT⟩ := hpre
      rw [HRR.out] at hT
      have FS : ∀ z, Fd a us z → z < w1.heap.size ∨ (w2.heap.size ≤ z ∧ z < w3.heap.size) := fun z f => f.elim (fun f => .inl (by have := HAL.out.1; omega)) (fun f => .inr (HSL.out.2.2 z f))
      have hyr := hT6.row
      rw [hT] at hyr
      obtain ⟨Y, hY⟩ : ∃ Y, (R.1 ++ T).length = Y := ⟨_, rfl⟩
      have hVY : V ≤ Y := by have := HV.out; rw [← hY, List.length_append]; omega
      rw [hY] at hyr
      obtain ⟨ya, yc, hly⟩ := form1 hyr
      subst hly
      have hxr := HT5.out.row
      rw [HV.out] at hxr
      have HXR : Hid (w6.ownsRow w4.heap.size 38 1 (.slice la V lc) V (ins .u32 (nums R.1))) := ownsRow_keep hxr hT6.chg (fun g eg f => by have := FS _ f; have := (hxr.lt g eg).1; omega)
      have HYR : Hid (w6.ownsRow w5.heap.size 38 1 (.slice ya Y yc) Y (ins .u32 (nums (R.1 ++ T)))) := hyr
      have HDc : Hid (Dec w6 w1.heap.size ac vc (bs.take C) R.2.1) := S.keep HT5.out.dec hT6.chg (fun f => by have := FS _ f; have := HACL.out; omega) (fun g eg f => by have := FS _ f; have := HVC.out g eg; omega)
      have HTt : Hid (St w6 w3.heap.size t ut R.2.2.1) := HT5.out.st.keep hT6.chg (fun f => by have := FS _ f; have := HT4.out.ha; omega) (fun g eg f => by have := FS _ f; have := (HT4.out.own.lt g eg).1; omega)
      have HC6 : Hid (Chg (fun _ => False) w0 w6) := HC5.out.trans hT6.chg (fun z f => .inr (by
        rcases f with f | f
        · rw [f]; exact S.base HDd5.out
        · have := (HSL.out.2.2 z f).1; omega))
      generalize (((decL bs l ⟨5, 4294967295, Rc.code5 bs⟩ (List.replicate N 1024)).2.1.n : Nat) : Int) = used6 at *
      have hVm : V ≤ L := by have h9 := decL_len (bs.take C) l ⟨5, 4294967295, Rc.code5 bs⟩ (List.replicate N 1024); rw [HRR.out, HV.out, HLL.out] at h9; exact h9
      have hz56 := hT6.chg.size
      have hdv : decide ((Y : Int) < (V : Int)) = false := by simp; omega
      have HOR := HT5.out.ok
      have HIR := HT5.out.inn
      clear hT6 hyr hxr FS FT
      go_wp2_with fail
      go_loopw [144] (fun iv wr => ∃ j : Nat, j ≤ V ∧ iv = .int .i64 (j : Int) ∧ Hid (Chg (fun _ => False) w6 wr)) (fun iv _ => V - (intOf iv).toNat)
      case atStart => exact ⟨0, Nat.zero_le _, rfl, Chg.refl _ _⟩
      case round =>
        obtain ⟨j, hj, rfl, HCJ⟩ := hrel
        by_cases hjk : j < V
        · obtain ⟨y, hy⟩ : ∃ y, R.1[j]? = some y := ⟨_, List.getElem?_eq_getElem (by rw [HV.out]; exact hjk)⟩
          have hy2 : (R.1 ++ T)[j]? = some y := by rw [List.getElem?_append_left (by rw [HV.out]; exact hjk)]; exact hy
          obtain ⟨g1, c1, e1, _, _, _, _, _, k1⟩ := own_some (ownsRow_keep HXR.out HCJ.out (fun _ _ f => f)) (by omega)
          obtain ⟨g2, c2, e2, _, _, _, _, _, k2⟩ := own_some (ownsRow_keep HYR.out HCJ.out (fun _ _ f => f)) (by omega)
          cases e1
          cases e2
          have hx1 : wr.cell? ⟨g1, j, none⟩ = some (.int .u32 (y : Int)) := k1 j _ (by simp [ins, nums, hy])
          have hx2 : wr.cell? ⟨g2, j, none⟩ = some (.int .u32 (y : Int)) := k2 j _ (by simp only [ins, nums, List.getElem?_map, hy2]; rfl)
          have hjY : j < Y := by omega
          clear k1 k2 hy hy2 hY
          go_wp2_with fail
          go_quiet (fail)
          go_wp2_with fail
          go_roundw
          case rel => exact ⟨j + 1, by omega, by go_num, chg_then HCJ.out (chg_drewN _ _)⟩
          case measure => simp [intOf]; omega
        · obtain rfl : j = V := by omega
          have hd9 : decide ((j : Int) < (j : Int)) = false := by simp
          have HCE : Hid (Chg (fun _ => False) w0 wr) := chg_then HC6.out HCJ.out
          by_cases hjL : j = L
          · subst hjL
            go_wp2
            go_ret
            exact ⟨rfl, HCE.out⟩
          · obtain ⟨q, e, hq, he⟩ := decL_stop (bs.take C) l ⟨5, 4294967295, Rc.code5 bs⟩ (List.replicate N 1024) (by rw [HRR.out, HV.out, HLL.out]; omega)
            rw [HRR.out] at hq he
            rw [HV.out] at hq
            obtain ⟨b0, off, ea, h0, h1, h2, h3, hX⟩ := (HA0.out.new HCE.out) j q hq
            obtain ⟨dd, I, N_, X⟩ := q
            subst ea
            have HER : Hid (decA (bs.take C) ⟨dd, I, N_, X⟩ R.2.1 R.2.2.1 = .error e) := he
            have HXX : Hid (X ≤ 4294967295) := hX
            have hbL : ((j : Int) == (L : Int)) = false := beq_eq_false_iff_ne.2 (by omega)
            have hdL : decide ((j : Int) = (L : Int)) = false := by simp; omega
            have hjL2 : j < L := by omega
            have hzJ := HCJ.out.size
            obtain ⟨U, hU⟩ : ∃ U, R.2.1.n = U := ⟨_, rfl⟩
            have hUC : U ≤ C := by have h9 := HOR.n; rw [HTL.out, hU] at h9; exact h9
            have HU : Hid (R.2.1.n = U) := hU
            have HAT : Hid (∃ p e2 : Int, ∀ w, St w w3.heap.size t ut R.2.2.1 → Calls Try.prog 13 #[.pointer (some ⟨t, 0, none⟩), .int .i64 I] w fun z w' => z = .returned (.tuple #[.int .i64 p, .int .i64 e2]) ∧ w = w') := by
              by_cases hi : 0 ≤ I ∧ I < (R.2.2.1.length : Int)
              · obtain ⟨i, rfl⟩ := Int.eq_ofNat_of_zero_le hi.1
                exact ⟨_, _, fun w hw => at_in _ t ut _ i w hw HIR.inn (by omega)⟩
              · exact ⟨0, 7, fun w hw => at_out _ t ut _ I w hw (by omega)⟩
            obtain ⟨p, e2, hat⟩ := HAT
            have HAT : Hid (∀ w, St w w3.heap.size t ut R.2.2.1 → Calls Try.prog 13 #[.pointer (some ⟨t, 0, none⟩), .int .i64 I] w fun z w' => z = .returned (.tuple #[.int .i64 p, .int .i64 e2]) ∧ w = w') := hat
            have cB := chg_one wr (.cells #[.bool dd, .int .i64 I, .int .i64 N_, .int .u32 (X : Int)] 40)
            have HCB : Hid (Chg (fun _ => False) w6 (wr.alloc (.cells #[.bool dd, .int .i64 I, .int .i64 N_, .int .u32 (X : Int)] 40))) := chg_then HCJ.out cB
            have HBO : Hid ((wr.alloc (.cells #[.bool dd, .int .i64 I, .int .i64 N_, .int .u32 (X : Int)] 40)).heap[wr.heap.size]? = some (.cells #[.bool dd, .int .i64 I, .int .i64 N_, .int .u32 (X : Int)] 40 (0, 0))) := heap_alloc_last wr _
            have HTB : Hid (St (wr.alloc (.cells #[.bool dd, .int .i64 I, .int .i64 N_, .int .u32 (X : Int)] 40)) w3.heap.size t ut R.2.2.1) := HTt.out.new HCB.out
            have HDB : Hid (Dec (wr.alloc (.cells #[.bool dd, .int .i64 I, .int .i64 N_, .int .u32 (X : Int)] 40)) w1.heap.size ac vc (bs.take C) R.2.1) := S.keep HDc.out HCB.out (fun f => f) (fun _ _ f => f)
            have hzB := cB.size
            rw [hU]
            clear cB hX hq he hat hU HDc HTt
            go_upto_region 29 with fail
            clear h0 h1 h2 h3
            have hzO : w6.heap.size ≤ wr.heap.size := hzJ
            generalize wr.alloc (.cells #[.bool dd, .int .i64 I, .int .i64 N_, .int .u32 (X : Int)] 40) = W at *
            generalize wr.heap.size = O at *
            obtain ⟨o0, o1, o2, o3, _⟩ := rcells4 HBO.out
            go_wp2_with fail
            refine (HAT.out _ HTB.out).mono ?_
            rintro z w9 ⟨rfl, rfl⟩
            have cC := chg_one W (.cells #[.bool dd, .int .i64 I, .int .i64 N_, .int .u32 (X : Int)] 40)
            have HTC : Hid (St (W.alloc (.cells #[.bool dd, .int .i64 I, .int .i64 N_, .int .u32 (X : Int)] 40)) w3.heap.size t ut R.2.2.1) := HTB.out.new cC
            have HDC : Hid (Dec (W.alloc (.cells #[.bool dd, .int .i64 I, .int .i64 N_, .int .u32 (X : Int)] 40)) w1.heap.size ac vc (bs.take C) R.2.1) := S.keep HDB.out cC (fun f => f) (fun _ _ f => f)
            have HCC : Hid (Chg (fun _ => False) w6 (W.alloc (.cells #[.bool dd, .int .i64 I, .int .i64 N_, .int .u32 (X : Int)] 40))) := chg_then HCB.out cC
            have HBC : Hid ((W.alloc (.cells #[.bool dd, .int .i64 I, .int .i64 N_, .int .u32 (X : Int)] 40)).heap[O]? = some (.cells #[.bool dd, .int .i64 I, .int .i64 N_, .int .u32 (X : Int)] 40 (0, 0))) := blk_keep HBO.out cC (fun f => f)
            have HAQ : Hid (Asks (W.alloc (.cells #[.bool dd, .int .i64 I, .int .i64 N_, .int .u32 (X : Int)] 40)) (some ⟨W.heap.size, 0, none⟩) [⟨dd, I, N_, X⟩]) := fun k q hq => by
              obtain ⟨z0, z1, z2, z3, _⟩ := rcells4 (heap_alloc_last W (.cells #[.bool dd, .int .i64 I, .int .i64 N_, .int .u32 (X : Int)] 40))
              match k, hq with
              | 0, hq => simp at hq; subst hq; exact ⟨_, 0, rfl, z0, z1, z2, z3, HXX.out⟩
            have hzC := cC.size
            clear cC
            go_wp2_with fail
            refine (answered_any S w1.heap.size w3.heap.size ac t vc ut (bs.take C) R.2.1 R.2.2.1 (some ⟨W.heap.size, 0, none⟩) 1 1 [⟨dd, I, N_, X⟩] _ HDC.out HOR (dig_take hdig C) (by rw [HTL.out]; omega) HTC.out HIR (by omega) HAQ.out rfl (by omega) ?_).mono ?_
            · intro y ey hne f
              cases ey
              rcases f with f | f
              · have := HACL.out.1
                simp only at f
                omega
              · have := HTL5.out.2 _ f
                simp only at this
                omega
            rintro z w9 ⟨lz, rfl, hT9⟩
            rw [decL_one_err HER.out] at hT9 ⊢
            obtain ⟨za, zc, hlz⟩ := form1 hT9.row
            have HT9 : Hid (St w9 w3.heap.size t ut R.2.2.1) := hT9.st
            have HB9 : Hid (w9.heap[O]? = some (.cells #[.bool dd, .int .i64 I, .int .i64 N_, .int .u32 (X : Int)] 40 (0, 0))) := blk_keep HBC.out hT9.chg (fun f => by
              rcases f with f | f
              · have := HACL.out.1; omega
              · have := HTL5.out.2 _ f; omega)
            have HC9 : Hid (Chg (fun _ => False) w0 w9) := (chg_then HC6.out HCC.out).trans hT9.chg (fun z f => .inr (by
              rcases f with f | f
              · have := HACL.out.2; omega
              · have := (HT4.out.own.lt _ f).1; omega))
            subst hlz
            have o1' := (rcells4 HB9.out).2.1
            clear hT9 o0 o1 o2 o3
            simp only [HU.out, List.length_nil]
            have hUCi : (U : Int) ≤ (C : Int) := by omega
            go_wp2_with fail
            refine (HAT.out _ HT9.out).mono ?_
            rintro z w10 ⟨rfl, rfl⟩
            go_wp2
            go_ret
            exact ⟨rfl, HC9.out⟩
set_option maxHeartbeats 2000000 in
set_option maxRecDepth 100000 in
theorem begins_nil {Dec : World → Nat → Nat → Value → List Nat → Rc.D → Prop} (S : DecSpec Dec) (cut n : Int) (av : Option Addr) (L cv : Nat) (w0 : World) : Calls Try.prog 3 #[.slice none 0 0, .int .i64 cut, .agg #[.int .i64 n, .slice av L cv]] w0 fun x w' => x = .returned (.bool true) ∧ Chg (fun _ => False) w0 w' := by
  have hrn : ∀ w, Row8 w none 0 0 (nums []) := fun w => ⟨rfl, .inl ⟨rfl, rfl, rfl⟩⟩
  have hdn : Rc.Dig [] := fun x hx => (List.not_mem_nil hx).elim
  have HRN : Hid (∀ w, Row8 w none 0 0 (nums [])) := hrn
  clear hrn
  by_cases hn0 : n < 0
  · have hbx : (w0.alloc (.cells #[.int .i64 n, .slice av L cv] 25)).heap[w0.heap.size]? = some (.cells #[.int .i64 n, .slice av L cv] 25 (0, 0)) := heap_alloc_last w0 _
    have x0 := cell0 hbx
    have x1 := cell1 hbx
    have HCX : Hid (Chg (fun _ => False) w0 (w0.alloc (.cells #[.int .i64 n, .slice av L cv] 25))) := chg_one w0 _
    clear hbx
    go_enter Try.func3, Try.ntmps3
    go_wp2_with fail
    go_quiet (fail)
    clear x0 x1
    go_wp2_with fail
    refine (known_any S _).mono ?_
    rintro z w1 ⟨rfl, c1⟩
    have HCE : Hid (Chg (fun _ => False) w0 w1) := chg_then HCX.out (chg_then (chg_drewN _ _) c1)
    clear c1
    go_wp2
    go_ret
    exact ⟨rfl, HCE.out⟩
  by_cases hn64 : 64 < n
  · have hd0 : decide (n < 0) = false := by simp; omega
    have hbx : (w0.alloc (.cells #[.int .i64 n, .slice av L cv] 25)).heap[w0.heap.size]? = some (.cells #[.int .i64 n, .slice av L cv] 25 (0, 0)) := heap_alloc_last w0 _
    have x0 := cell0 hbx
    have x1 := cell1 hbx
    have HCX : Hid (Chg (fun _ => False) w0 (w0.alloc (.cells #[.int .i64 n, .slice av L cv] 25))) := chg_one w0 _
    clear hbx
    go_enter Try.func3, Try.ntmps3
    go_wp2_with fail
    go_quiet (fail)
    clear x0 x1
    go_wp2_with fail
    refine (known_any S _).mono ?_
    rintro z w1 ⟨rfl, c1⟩
    have HCE : Hid (Chg (fun _ => False) w0 w1) := chg_then HCX.out (chg_then (chg_drewN _ _) c1)
    clear c1
    go_wp2
    go_ret
    exact ⟨rfl, HCE.out⟩
  by_cases hc0 : cut < 0
  · have hd0 : decide (n < 0) = false := by simp; omega
    have hd1 : decide (64 < n) = false := by simp; omega
    have hbx : (w0.alloc (.cells #[.int .i64 n, .slice av L cv] 25)).heap[w0.heap.size]? = some (.cells #[.int .i64 n, .slice av L cv] 25 (0, 0)) := heap_alloc_last w0 _
    have x0 := cell0 hbx
    have x1 := cell1 hbx
    have HCX : Hid (Chg (fun _ => False) w0 (w0.alloc (.cells #[.int .i64 n, .slice av L cv] 25))) := chg_one w0 _
    clear hbx
    go_enter Try.func3, Try.ntmps3
    go_wp2_with fail
    go_quiet (fail)
    clear x0 x1
    go_wp2_with fail
    refine (known_any S _).mono ?_
    rintro z w1 ⟨rfl, c1⟩
    have HCE : Hid (Chg (fun _ => False) w0 w1) := chg_then HCX.out (chg_then (chg_drewN _ _) c1)
    clear c1
    go_wp2
    go_ret
    exact ⟨rfl, HCE.out⟩
  by_cases hcn : 0 < cut
  · have hd0 : decide (n < 0) = false := by simp; omega
    have hd1 : decide (64 < n) = false := by simp; omega
    have hd2 : decide (cut < 0) = false := by simp; omega
    have hbx : (w0.alloc (.cells #[.int .i64 n, .slice av L cv] 25)).heap[w0.heap.size]? = some (.cells #[.int .i64 n, .slice av L cv] 25 (0, 0)) := heap_alloc_last w0 _
    have x0 := cell0 hbx
    have x1 := cell1 hbx
    have HCX : Hid (Chg (fun _ => False) w0 (w0.alloc (.cells #[.int .i64 n, .slice av L cv] 25))) := chg_one w0 _
    clear hbx
    go_enter Try.func3, Try.ntmps3
    go_wp2_with fail
    go_quiet (fail)
    clear x0 x1
    go_wp2_with fail
    refine (known_any S _).mono ?_
    rintro z w1 ⟨rfl, c1⟩
    have HCE : Hid (Chg (fun _ => False) w0 w1) := chg_then HCX.out (chg_then (chg_drewN _ _) c1)
    clear c1
    go_wp2
    go_ret
    exact ⟨rfl, HCE.out⟩
  obtain rfl : cut = 0 := by omega
  have hd0 : decide (n < 0) = false := by simp; omega
  have hd1 : decide (64 < n) = false := by simp; omega
  clear hc0 hcn
  have hbx : (w0.alloc (.cells #[.int .i64 n, .slice av L cv] 25)).heap[w0.heap.size]? = some (.cells #[.int .i64 n, .slice av L cv] 25 (0, 0)) := heap_alloc_last w0 _
  have x0 := cell0 hbx
  have x1 := cell1 hbx
  have HCX : Hid (Chg (fun _ => False) w0 (w0.alloc (.cells #[.int .i64 n, .slice av L cv] 25))) := chg_one w0 _
  clear hbx
  go_enter Try.func3, Try.ntmps3
  go_wp2_with fail
  go_quiet (fail)
  clear x0 x1
  generalize hW : (World.drewN _ _) = W1
  have HCW : Hid (Chg (fun _ => False) w0 W1) := by show Chg _ _ _; rw [← hW]; exact chg_then HCX.out (chg_drewN _ _)
  clear hW HCX
  go_wp2_with fail
  refine (S.new none 0 0 [] _ (HRN.out _) hdn (by omega)).mono ?_
  rintro z w1 (⟨h1, rfl, c1⟩ | ⟨h1, _⟩ | ⟨h1, _⟩)
  · have HC1 : Hid (Chg (fun _ => False) w0 w1) := chg_then HCW.out c1
    clear c1 h1
    go_wp2_with fail
    refine (S.new none 0 0 [] _ (HRN.out _) hdn (by omega)).mono ?_
    rintro z w2 (⟨h1, rfl, c2⟩ | ⟨h1, _⟩ | ⟨h1, _⟩)
    · have HC2 : Hid (Chg (fun _ => False) w0 w2) := chg_then HC1.out c2
      clear c2 h1
      go_wp2_with fail
      refine (num_any _ _).mono ?_
      rintro z w9 ⟨rfl, rfl⟩
      go_wp2
      go_ret
      exact ⟨rfl, HC2.out⟩
    · simp at h1
    · simp at h1
  · simp at h1
  · simp at h1
end Go.Proofs.Ytejopgopcocapaa
