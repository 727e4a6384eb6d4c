/- The walk of RcdecApart above what is asked of the decoder; of no statement by itself. -/
import Derived.Test.YtejopgopcocapaaApm
import Derived.Test.YtejopgopcocapaaOpenD
namespace Go.Proofs.Ytejopgopcocapaa
open Go.RowKit
set_option linter.unusedVariables false

theorem decL_le (b : List Nat) : ∀ (l : List Q) (d : Rc.D) (xs : List Int), (decL b l d xs).1.length ≤ l.length
  | [], d, xs => Nat.le_refl _
  | q :: l, d, xs => by
    unfold decL
    cases e : decA b q d xs with
    | error x => exact Nat.zero_le _
    | ok r =>
      obtain ⟨v, d', xs'⟩ := r
      have := decL_le b l d' xs'
      simp only [List.length_cons]
      omega
theorem new_bad {Dec : World → Nat → Nat → Value → List Nat → Rc.D → Prop} (S : DecSpec Dec) {bs : List Nat} (hdig : Rc.Dig bs) (h : ¬ (5 ≤ bs.length ∧ bs.getD 0 0 = 0 ∧ Rc.code5 bs < 4294967295)) : ∃ e : Int, e ≠ 0 ∧ ∀ ad n c w, Row8 w ad n c (nums bs) → n ≤ 140737488355328 → Calls Try.prog 9 #[.slice ad n c] w fun x w' => x = .returned (.tuple #[.pointer none, .int .i64 e]) ∧ Chg (fun _ => False) w w' := by
  by_cases h5 : bs.length < 5
  · refine ⟨1, by decide, fun ad n c w hr hn => (S.new ad n c bs w hr hdig hn).mono ?_⟩
    rintro x w' (⟨_, h2, h3⟩ | ⟨h1, _⟩ | ⟨h1, _⟩)
    · exact ⟨h2, h3⟩
    · omega
    · omega
  · refine ⟨2, by decide, fun ad n c w hr hn => (S.new ad n c bs w hr hdig hn).mono ?_⟩
    rintro x w' (⟨h1, _⟩ | ⟨_, _, h2, h3⟩ | ⟨h1, h2, h3, _⟩)
    · omega
    · exact ⟨h2, h3⟩
    · exact absurd ⟨h1, h2, h3⟩ h
theorem new_good {Dec : World → Nat → Nat → Value → List Nat → Rc.D → Prop} (S : DecSpec Dec) {bs : List Nat} (hdig : Rc.Dig bs) (h : 5 ≤ bs.length ∧ bs.getD 0 0 = 0 ∧ Rc.code5 bs < 4294967295) (ad : Option Addr) (n c : Nat) (w : World) (hr : Row8 w ad n c (nums bs)) (hn : n ≤ 140737488355328) : Calls Try.prog 9 #[.slice ad n c] w fun x w' => ∃ r v, x = .returned (.tuple #[.pointer (some ⟨r, 0, none⟩), .int .i64 0]) ∧ Dec w' w.heap.size r v bs ⟨5, 4294967295, Rc.code5 bs⟩ ∧ Chg (fun _ => False) w w' := by
  refine (S.new ad n c bs w hr hdig hn).mono ?_
  rintro x w' (⟨h1, _⟩ | ⟨_, h1, _⟩ | ⟨_, _, _, h2⟩)
  · omega
  · rcases h1 with h1 | h1
    · exact absurd h.2.1 h1
    · omega
  · exact h2
set_option maxHeartbeats 8000000 in
set_option maxRecDepth 100000 in
theorem apart_any {Dec : World → Nat → Nat → Value → List Nat → Rc.D → Prop} (S : DecSpec Dec) (ab : Option Addr) (nb cb : Nat) (bs : List Nat) (n : Int) (av : Option Addr) (L cv : Nat) (l : List Q) (tv : Option Addr) (T ct : Nat) (tl : List Bool) (w0 : World) (hb : Row8 w0 ab nb cb (nums bs)) (hdig : Rc.Dig bs) (hnb : nb ≤ 140737488355328) (hA : Asks w0 av l) (hL : l.length = L) (hl : L ≤ 4398046510976) (hcv : L ≤ cv) (hF : Flags w0 tv tl) (hT : tl.length = T) (hT2 : T ≤ maxLen) : Calls Try.prog 4 #[.slice ab nb cb, .agg #[.int .i64 n, .slice av L cv], .slice tv T ct] w0 fun x w' => x = .returned (.bool true) ∧ Chg (fun _ => False) w0 w' := by
  have HA0 : Hid (Asks w0 av l) := hA
  have HLL : Hid (l.length = L) := hL
  have HB0 : Hid (Row8 w0 ab nb cb (nums bs)) := hb
  have HBL : Hid (bs.length = nb) := by have := hb.1; rw [nums_len] at this; exact this
  have HF0 : Hid (Flags w0 tv tl) := hF
  have HTL : Hid (tl.length = T) := hT
  have hT3 : (T : Int) ≤ 9223372036854775807 := by unfold maxLen at hT2; omega
  clear hA hL hb hF hT hT2
  by_cases hn0 : n < 0
  · have hbx : (w0.alloc (.cells #[.int .i64 n, .slice av L cv] 25)).heap[w0.heap.size]? = some (.cells #[.int .i64 n, .slice av L cv] 25 (0, 0)) := heap_alloc_last w0 _
    have x0 := cell0 hbx
    have x1 := cell1 hbx
    have HCX : Hid (Chg (fun _ => False) w0 (w0.alloc (.cells #[.int .i64 n, .slice av L cv] 25))) := chg_one w0 _
    clear hbx
    go_enter Try.func4, Try.ntmps4
    go_wp2_with fail
    go_quiet (fail)
    clear x0 x1
    go_wp2_with fail
    refine (known_any S _).mono ?_
    rintro z w1 ⟨rfl, c1⟩
    have HCE : Hid (Chg (fun _ => False) w0 w1) := chg_then HCX.out (chg_then (chg_drewN _ _) c1)
    clear c1
    go_wp2
    go_ret
    exact ⟨rfl, HCE.out⟩
  by_cases hn64 : 64 < n
  · have hd0 : decide (n < 0) = false := by simp; omega
    have hbx : (w0.alloc (.cells #[.int .i64 n, .slice av L cv] 25)).heap[w0.heap.size]? = some (.cells #[.int .i64 n, .slice av L cv] 25 (0, 0)) := heap_alloc_last w0 _
    have x0 := cell0 hbx
    have x1 := cell1 hbx
    have HCX : Hid (Chg (fun _ => False) w0 (w0.alloc (.cells #[.int .i64 n, .slice av L cv] 25))) := chg_one w0 _
    clear hbx
    go_enter Try.func4, Try.ntmps4
    go_wp2_with fail
    go_quiet (fail)
    clear x0 x1
    go_wp2_with fail
    refine (known_any S _).mono ?_
    rintro z w1 ⟨rfl, c1⟩
    have HCE : Hid (Chg (fun _ => False) w0 w1) := chg_then HCX.out (chg_then (chg_drewN _ _) c1)
    clear c1
    go_wp2
    go_ret
    exact ⟨rfl, HCE.out⟩
  obtain ⟨N, rfl⟩ := Int.eq_ofNat_of_zero_le (show 0 ≤ n by omega)
  have hd0 : decide ((N : Int) < 0) = false := by simp
  have hd1 : decide ((64 : Int) < (N : Int)) = false := by simp; omega
  clear hn0
  have hbx : (w0.alloc (.cells #[.int .i64 (N : Int), .slice av L cv] 25)).heap[w0.heap.size]? = some (.cells #[.int .i64 (N : Int), .slice av L cv] 25 (0, 0)) := heap_alloc_last w0 _
  have x0 := cell0 hbx
  have x1 := cell1 hbx
  have HCX : Hid (Chg (fun _ => False) w0 (w0.alloc (.cells #[.int .i64 (N : Int), .slice av L cv] 25))) := chg_one w0 _
  clear hbx
  go_enter Try.func4, Try.ntmps4
  go_wp2_with fail
  go_quiet (fail)
  clear x0 x1
  generalize hW : (World.drewN _ _) = W1
  have HCW : Hid (Chg (fun _ => False) w0 W1) := by show Chg _ _ _; rw [← hW]; exact chg_then HCX.out (chg_drewN _ _)
  clear hW HCX
  obtain ⟨iu, hiu, hu0, hu1, hu2⟩ := info_parts infoU8
  have hone := ins_one .u8 (nums bs)
  have cE2 := chg_one W1 (.cells #[] 5)
  have hoE2 := own_empty W1 5
  have hF2 : From (W1.alloc (.cells #[] 5)) ab nb cb 1 (ins .u8 (nums bs)) := (Bk.row8_chg HB0.out (chg_then HCW.out cE2)).src
  have hs2 : W1.heap.size ≤ (W1.alloc (.cells #[] 5)).heap.size := cE2.size
  go_wp2_with (at_builtin; refine wpList_append_moved rfl _ _ 22 rfl W1.heap.size 5 iu (.int .u8 0) 1 1 Try.underlying22 hiu hu0 hu1 hu2 rfl (by decide) _ 0 [] rfl ab nb cb rfl (ins .u8 (nums bs)) hoE2 hF2 hone (by unfold maxLen; omega) (by omega) hs2 ?_)
  intro v2 w2 ho2 hg2 _
  have c2 : Chg (fun _ => False) W1 w2 := cE2.grown hg2 (fun k e => .inr (by cases e; exact Nat.le_refl _))
  have ho2' : w2.ownsRow W1.heap.size 5 1 v2 nb (ins .u8 (nums bs)) := by simpa using ho2
  have HO2 : Hid (w2.ownsRow W1.heap.size 5 1 v2 nb (ins .u8 (nums bs))) := ho2'
  have HC2 : Hid (Chg (fun _ => False) w0 w2) := chg_then HCW.out c2
  have HW2 : Hid (Chg (fun _ => False) W1 w2) := c2
  obtain ⟨oa2, oc2, hv2⟩ := form1 ho2'
  subst hv2
  have HR2 : Hid (Row8 w2 oa2 nb oc2 (nums bs)) := row8_own HO2.out
  clear ho2 ho2' hg2 hoE2 hF2 hs2 cE2 c2
  by_cases hgood : 5 ≤ bs.length ∧ bs.getD 0 0 = 0 ∧ Rc.code5 bs < 4294967295
  rotate_left
  · obtain ⟨e, hne, hnew⟩ := new_bad S hdig hgood
    have HNEW : Hid (∀ ad n c w, Row8 w ad n c (nums bs) → n ≤ 140737488355328 → Calls Try.prog 9 #[.slice ad n c] w fun x w' => x = .returned (.tuple #[.pointer none, .int .i64 e]) ∧ Chg (fun _ => False) w w') := hnew
    have hbe : (e == 0) = false := by simpa using hne
    have hde : decide (e = 0) = false := by simpa using hne
    clear hne hnew hgood
    go_wp2_with fail
    refine (HNEW.out _ _ _ _ HR2.out hnb).mono ?_
    rintro z w3 ⟨rfl, c3⟩
    have HC3 : Hid (Chg (fun _ => False) w0 w3) := chg_then HC2.out c3
    have HR3 : Hid (Row8 w3 oa2 nb oc2 (nums bs)) := Bk.row8_chg HR2.out c3
    clear c3
    go_wp2_with fail
    refine (HNEW.out _ _ _ _ HR3.out hnb).mono ?_
    rintro z w4 ⟨rfl, c4⟩
    have HC4 : Hid (Chg (fun _ => False) w0 w4) := chg_then HC3.out c4
    clear c4
    have cE5 := chg_one w4 (.cells #[] 5)
    have hoE5 := own_empty w4 5
    have hF5 : From (w4.alloc (.cells #[] 5)) ab nb cb 1 (ins .u8 (nums bs)) := (Bk.row8_chg HB0.out (chg_then HC4.out cE5)).src
    have hs5 : w4.heap.size ≤ (w4.alloc (.cells #[] 5)).heap.size := cE5.size
    go_wp2_with (at_builtin; refine wpList_append_moved rfl _ _ 22 rfl w4.heap.size 5 iu (.int .u8 0) 1 1 Try.underlying22 hiu hu0 hu1 hu2 rfl (by decide) _ 0 [] rfl ab nb cb rfl (ins .u8 (nums bs)) hoE5 hF5 hone (by unfold maxLen; omega) (by omega) hs5 ?_)
    intro v5 w5 ho5 hg5 _
    have c5 : Chg (fun _ => False) w4 w5 := cE5.grown hg5 (fun k e => .inr (by cases e; exact Nat.le_refl _))
    have ho5' : w5.ownsRow w4.heap.size 5 1 v5 nb (ins .u8 (nums bs)) := by simpa using ho5
    have HO5 : Hid (w5.ownsRow w4.heap.size 5 1 v5 nb (ins .u8 (nums bs))) := ho5'
    have HC5 : Hid (Chg (fun _ => False) w0 w5) := chg_then HC4.out c5
    have HW5 : Hid (Chg (fun _ => False) w4 w5) := c5
    obtain ⟨oa5, oc5, hv5⟩ := form1 ho5'
    subst hv5
    have HR5 : Hid (Row8 w5 oa5 nb oc5 (nums bs)) := row8_own HO5.out
    clear ho5 ho5' hg5 hoE5 hF5 hs5 cE5 c5
    go_wp2_with fail
    refine (HNEW.out _ _ _ _ HR5.out hnb).mono ?_
    rintro z w6 ⟨rfl, c6⟩
    have HC6 : Hid (Chg (fun _ => False) w0 w6) := chg_then HC5.out c6
    clear c6
    go_wp2_with fail
    refine (num_any _ _).mono ?_
    rintro z w9 ⟨rfl, rfl⟩
    go_wp2_with fail
    refine (num_any _ _).mono ?_
    rintro z w9 ⟨rfl, rfl⟩
    go_wp2_with fail
    refine (num_any _ _).mono ?_
    rintro z w9 ⟨rfl, rfl⟩
    go_wp2_with fail
    refine (num_any _ _).mono ?_
    rintro z w9 ⟨rfl, rfl⟩
    go_wp2_with fail
    refine (num_any _ _).mono ?_
    rintro z w9 ⟨rfl, rfl⟩
    go_wp2_with fail
    refine (known_any S _).mono ?_
    rintro z w7 ⟨rfl, c7⟩
    have HC7 : Hid (Chg (fun _ => False) w0 w7) := chg_then HC6.out c7
    clear c7
    go_wp2
    go_ret
    exact ⟨rfl, HC7.out⟩
  have HG : Hid (5 ≤ bs.length ∧ bs.getD 0 0 = 0 ∧ Rc.code5 bs < 4294967295) := hgood
  have HNB5 : Hid (5 ≤ nb) := by show _ ≤ _; have := HBL.out; omega
  have HOK : Hid (OkD bs ⟨5, 4294967295, Rc.code5 bs⟩) := ⟨by show 16777216 ≤ 4294967295; omega, by show 4294967295 ≤ 4294967295; omega, hgood.2.2, hgood.1⟩
  clear hgood
  go_wp2_with fail
  refine (new_good S hdig HG.out _ _ _ _ HR2.out hnb).mono ?_
  rintro z w3 ⟨a1, v1, rfl, hD1, c3⟩
  have HD1 : Hid (Dec w3 w2.heap.size a1 v1 bs ⟨5, 4294967295, Rc.code5 bs⟩) := hD1
  have HC3 : Hid (Chg (fun _ => False) w2 w3) := c3
  have HR3 : Hid (Row8 w3 oa2 nb oc2 (nums bs)) := Bk.row8_chg HR2.out c3
  clear hD1 c3
  go_wp2_with fail
  refine (new_good S hdig HG.out _ _ _ _ HR3.out hnb).mono ?_
  rintro z w4 ⟨a2, v2, rfl, hD2, c4⟩
  have HD2 : Hid (Dec w4 w3.heap.size a2 v2 bs ⟨5, 4294967295, Rc.code5 bs⟩) := hD2
  have HC34 : Hid (Chg (fun _ => False) w3 w4) := c4
  have HC4 : Hid (Chg (fun _ => False) w0 w4) := chg_then HC2.out (chg_then HC3.out c4)
  clear hD2 c4 HR2 HR3
  have cE5 := chg_one w4 (.cells #[] 5)
  have hoE5 := own_empty w4 5
  have hF5 : From (w4.alloc (.cells #[] 5)) ab nb cb 1 (ins .u8 (nums bs)) := (Bk.row8_chg HB0.out (chg_then HC4.out cE5)).src
  have hs5 : w4.heap.size ≤ (w4.alloc (.cells #[] 5)).heap.size := cE5.size
  go_wp2_with (at_builtin; refine wpList_append_moved rfl _ _ 22 rfl w4.heap.size 5 iu (.int .u8 0) 1 1 Try.underlying22 hiu hu0 hu1 hu2 rfl (by decide) _ 0 [] rfl ab nb cb rfl (ins .u8 (nums bs)) hoE5 hF5 hone (by unfold maxLen; omega) (by omega) hs5 ?_)
  intro v5 w5 ho5 hg5 _
  have c5 : Chg (fun _ => False) w4 w5 := cE5.grown hg5 (fun k e => .inr (by cases e; exact Nat.le_refl _))
  have ho5' : w5.ownsRow w4.heap.size 5 1 v5 nb (ins .u8 (nums bs)) := by simpa using ho5
  have HO5 : Hid (w5.ownsRow w4.heap.size 5 1 v5 nb (ins .u8 (nums bs))) := ho5'
  have HC5 : Hid (Chg (fun _ => False) w0 w5) := chg_then HC4.out c5
  have HW5 : Hid (Chg (fun _ => False) w4 w5) := c5
  obtain ⟨oa5, oc5, hv5⟩ := form1 ho5'
  subst hv5
  have HR5 : Hid (Row8 w5 oa5 nb oc5 (nums bs)) := row8_own HO5.out
  clear ho5 ho5' hg5 hoE5 hF5 hs5 cE5 c5
  go_wp2_with fail
  refine (new_good S hdig HG.out _ _ _ _ HR5.out hnb).mono ?_
  rintro z w6 ⟨a3, v3, rfl, hD3, c6⟩
  have HD3 : Hid (Dec w6 w5.heap.size a3 v3 bs ⟨5, 4294967295, Rc.code5 bs⟩) := hD3
  have HC56 : Hid (Chg (fun _ => False) w5 w6) := c6
  clear hD3 c6 HR5 HO5
  have z23 := HC3.out.size
  have z34 := HC34.out.size
  have z45 := HW5.out.size
  have z56 := HC56.out.size
  have HC6 : Hid (Chg (fun _ => False) w0 w6) := chg_then HC5.out HC56.out
  have HC46 : Hid (Chg (fun _ => False) w4 w6) := chg_then HW5.out HC56.out
  have HC26 : Hid (Chg (fun _ => False) w2 w6) := chg_then HC3.out (chg_then HC34.out HC46.out)
  go_wp2_with fail
  refine (num_any _ _).mono ?_
  rintro z w9 ⟨rfl, rfl⟩
  go_wp2_with fail
  refine (num_any _ _).mono ?_
  rintro z w9 ⟨rfl, rfl⟩
  go_wp2_with fail
  refine (num_any _ _).mono ?_
  rintro z w9 ⟨rfl, rfl⟩
  go_wp2_with fail
  refine (num_any _ _).mono ?_
  rintro z w9 ⟨rfl, rfl⟩
  go_wp2_with fail
  refine (num_any _ _).mono ?_
  rintro z w9 ⟨rfl, rfl⟩
  obtain ⟨og, ocap, hov, _, hog1, hog2, _⟩ := own_some HO2.out (by have := HNB5.out; omega)
  cases hov
  have HOG : Hid (W1.heap.size ≤ og ∧ og < w2.heap.size) := ⟨hog1, hog2⟩
  have HO6 : Hid (w6.ownsRow W1.heap.size 5 1 (.slice (some ⟨og, 0, none⟩) nb oc2) nb (ins .u8 (nums bs))) := ownsRow_keep HO2.out HC26.out (fun _ _ f => f)
  clear hog1 hog2 HO2
  go_wp2_with fail
  go_loopw [95] (fun iv wr => ∃ (k : Nat) (ys : List Int), k ≤ nb ∧ iv = .int .i64 (k : Int) ∧ Hid (ys.length = nb) ∧ Hid (wr.ownsRow W1.heap.size 5 1 (.slice (some ⟨og, 0, none⟩) nb oc2) nb (ins .u8 ys)) ∧ Hid (Chg (fun z => z = og) w6 wr)) (fun iv _ => nb - (intOf iv).toNat)
  case atStart => exact ⟨0, nums bs, Nat.zero_le _, rfl, by rw [← HBL.out]; exact nums_len bs, HO6.out, Chg.refl _ _⟩
  case round =>
    clear HO6
    obtain ⟨k, ys, hk, rfl, HYL, HOW, HCW6⟩ := hrel
    by_cases hlt : k < nb
    · obtain ⟨g9, cap9, e9, hc9, _, _, _, hf9, hcl9⟩ := own_some HOW.out (by omega)
      cases e9
      have hcell : wr.cell? ⟨og, k, none⟩ = some (.int .u8 (ys[k]'(by rw [HYL.out]; exact hlt))) := hcl9 k _ (ins_at _ _ _ _)
      have hfr := hf9 k
      have HOW2 : Hid ((wr.setCell ⟨og, k, none⟩ (.int .u8 119)).ownsRow W1.heap.size 5 1 (.slice (some ⟨og, 0, none⟩) nb oc2) nb (ins .u8 (ys.set k 119))) := by
        have h9 := own_set HOW.out k (.int .u8 119) hlt
        rw [ins_set] at h9
        exact h9
      have HCW7 : Hid (Chg (fun z => z = og) w6 (wr.setCell ⟨og, k, none⟩ (.int .u8 119))) := HCW6.out.setCell (p := ⟨og, k, none⟩) (.inl rfl) _
      clear hcl9 hf9
      go_wp2_with fail
      go_roundw
      case rel => exact ⟨k + 1, ys.set k 119, by omega, by go_num, by show _ = _; rw [List.length_set]; exact HYL.out, HOW2.out, HCW7.out⟩
      case measure => simp [intOf]; omega
    · obtain rfl : k = nb := by omega
      have hd9 : decide ((k : Int) < (k : Int)) = false := by simp
      clear HOW HYL
      have HSM : Hid (∀ z, z = og → z < w2.heap.size) := fun z e => by rw [e]; exact HOG.out.2
      obtain ⟨w7, hw7⟩ : ∃ w7, wr = w7 := ⟨_, rfl⟩
      subst hw7
      have HD1_7 : Hid (Dec wr w2.heap.size a1 v1 bs ⟨5, 4294967295, Rc.code5 bs⟩) := S.keep (S.keep HD1.out (chg_then HC34.out HC46.out) (fun f => f) (fun _ _ f => f)) HCW6.out (fun f => by have := HSM.out _ f; have := S.base HD1.out; omega) (fun g e f => by have := HSM.out _ f; have := ((S.own HD1.out).lt g e).1; omega)
      have HD2_7 : Hid (Dec wr w3.heap.size a2 v2 bs ⟨5, 4294967295, Rc.code5 bs⟩) := S.keep (S.keep HD2.out HC46.out (fun f => f) (fun _ _ f => f)) HCW6.out (fun f => by have := HSM.out _ f; have := S.base HD2.out; omega) (fun g e f => by have := HSM.out _ f; have := ((S.own HD2.out).lt g e).1; omega)
      have HD3_7 : Hid (Dec wr w5.heap.size a3 v3 bs ⟨5, 4294967295, Rc.code5 bs⟩) := S.keep HD3.out HCW6.out (fun f => by have := HSM.out _ f; have := S.base HD3.out; omega) (fun g e f => by have := HSM.out _ f; have := ((S.own HD3.out).lt g e).1; omega)
      have HL1 : Hid (a1 < w3.heap.size ∧ ∀ g, v1.ownBlock = some g → g < w3.heap.size) := ⟨by obtain ⟨cs, hb⟩ := S.blk HD1.out; exact lt_of_blk hb, fun g eg => ((S.own HD1.out).lt g eg).2⟩
      have HL2 : Hid (a2 < w4.heap.size ∧ ∀ g, v2.ownBlock = some g → g < w4.heap.size) := ⟨by obtain ⟨cs, hb⟩ := S.blk HD2.out; exact lt_of_blk hb, fun g eg => ((S.own HD2.out).lt g eg).2⟩
      have HL3 : Hid (a3 < w6.heap.size ∧ w5.heap.size ≤ a3) := ⟨by obtain ⟨cs, hb⟩ := S.blk HD3.out; exact lt_of_blk hb, S.base HD3.out⟩
      have HC7 : Hid (Chg (fun _ => False) w0 wr) := HC6.out.trans HCW6.out (fun z f => .inr (by rw [f]; have := HOG.out.1; have := HCW.out.size; omega))
      have z67 := HCW6.out.size
      clear HD1 HD2 HD3 HCW6
      go_wp2_with fail
      refine (new_in N _ (by omega)).mono ?_
      rintro z w8 ⟨s1, u1, rfl, hs, hS1, c8⟩
      have HS1 : Hid (St w8 wr.heap.size s1 u1 (List.replicate N 1024)) := hS1
      have HC78 : Hid (Chg (fun _ => False) wr w8) := c8
      clear hs hS1 c8
      go_wp2_with fail
      refine (new_in N _ (by omega)).mono ?_
      rintro z w9 ⟨s2, u2, rfl, hs, hS2, c9⟩
      have HS2 : Hid (St w9 w8.heap.size s2 u2 (List.replicate N 1024)) := hS2
      have HC89 : Hid (Chg (fun _ => False) w8 w9) := c9
      clear hs hS2 c9
      go_wp2_with fail
      refine (new_in N _ (by omega)).mono ?_
      rintro z w10 ⟨s3, u3, rfl, hs, hS3, c10⟩
      have HS3 : Hid (St w10 w9.heap.size s3 u3 (List.replicate N 1024)) := hS3
      have HC9A : Hid (Chg (fun _ => False) w9 w10) := c10
      clear hs hS3 c10
      have z78 := HC78.out.size
      have z89 := HC89.out.size
      have z9A := HC9A.out.size
      have HC7A : Hid (Chg (fun _ => False) wr w10) := chg_then HC78.out (chg_then HC89.out HC9A.out)
      have HCA : Hid (Chg (fun _ => False) w0 w10) := chg_then HC7.out HC7A.out
      have HRun1 : Hid (Run Dec w10 w2.heap.size w3.heap.size wr.heap.size w8.heap.size a1 s1 v1 u1 bs ⟨5, 4294967295, Rc.code5 bs⟩ (List.replicate N 1024)) := ⟨S.keep HD1_7.out HC7A.out (fun f => f) (fun _ _ f => f), HS1.out.new (chg_then HC89.out HC9A.out), HL1.out.1, HL1.out.2, lt_of_blk HS1.out.blk, fun g e => (HS1.out.own.lt g e).2⟩
      have HRun2 : Hid (Run Dec w10 w3.heap.size w4.heap.size w8.heap.size w9.heap.size a2 s2 v2 u2 bs ⟨5, 4294967295, Rc.code5 bs⟩ (List.replicate N 1024)) := ⟨S.keep HD2_7.out HC7A.out (fun f => f) (fun _ _ f => f), HS2.out.new HC9A.out, HL2.out.1, HL2.out.2, lt_of_blk HS2.out.blk, fun g e => (HS2.out.own.lt g e).2⟩
      have HD3A : Hid (Dec w10 w5.heap.size a3 v3 bs ⟨5, 4294967295, Rc.code5 bs⟩) := S.keep HD3_7.out HC7A.out (fun f => f) (fun _ _ f => f)
      clear HD1_7 HD2_7 HD3_7 HS1 HS2
      go_wp2_with fail
      refine (answered_any S w5.heap.size w9.heap.size a3 s3 v3 u3 bs ⟨5, 4294967295, Rc.code5 bs⟩ (List.replicate N 1024) av L cv l _ HD3A.out HOK.out hdig (by rw [HBL.out]; exact hnb) HS3.out (In31.half N) (by omega) (HA0.out.new HCA.out) HLL.out hl ?_).mono ?_
      · intro y ey hne f
        have h9 := HA0.out.old y ey hne
        have h8 := HC7.out.size
        have h7 := HL3.out.2
        have h6 := HC5.out.size
        rcases f with f | f
        · omega
        · have := (HS3.out.own.lt _ f).1
          omega
      rintro z w11 ⟨lw, rfl, hT⟩
      have hFd : ∀ z, Fd a3 u3 z → (w5.heap.size ≤ z ∧ z < w6.heap.size) ∨ (w9.heap.size ≤ z ∧ z < w10.heap.size) := fun z f => by
        rcases f with f | f
        · rw [f]; exact .inl ⟨HL3.out.2, HL3.out.1⟩
        · exact .inr (HS3.out.own.lt z f)
      obtain ⟨V, hV⟩ : ∃ V, (decL bs l ⟨5, 4294967295, Rc.code5 bs⟩ (List.replicate N 1024)).1.length = V := ⟨_, rfl⟩
      have HV : Hid ((decL bs l ⟨5, 4294967295, Rc.code5 bs⟩ (List.replicate N 1024)).1.length = V) := hV
      have hVL : V ≤ L := by have h9 := decL_le bs l ⟨5, 4294967295, Rc.code5 bs⟩ (List.replicate N 1024); rw [hV, HLL.out] at h9; exact h9
      have hrow := hT.row
      rw [hV] at hrow
      obtain ⟨wa, wc, hlw⟩ := form1 hrow
      have z05 := HC5.out.size
      have z02 := HC2.out.size
      have HTwo : Hid (Two Dec w0 w11 w10.heap.size bs l ⟨5, 4294967295, Rc.code5 bs⟩ (List.replicate N 1024) lw w2.heap.size w3.heap.size wr.heap.size w8.heap.size a1 s1 v1 u1 w3.heap.size w4.heap.size w8.heap.size w9.heap.size a2 s2 v2 u2 0 0 (.slice none 0 0) (.slice none 0 0) [] [] ⟨5, 4294967295, Rc.code5 bs⟩ ⟨5, 4294967295, Rc.code5 bs⟩ (List.replicate N 1024) (List.replicate N 1024)) :=
        ⟨HRun1.out.keep S hT.chg (fun z f k => by have := hFd z f; unfold Zn at k; omega), HRun2.out.keep S hT.chg (fun z f k => by have := hFd z f; unfold Zn at k; omega), Ap.start HOK.out (In31.half N), Ap.start HOK.out (In31.half N), World.ownsRow_nil _ _ _ _, World.ownsRow_nil _ _ _ _, hT.row, fun g e => by simp [Value.ownBlock] at e, fun g e => by simp [Value.ownBlock] at e, fun g e => by simp [Value.ownBlock] at e, fun z k1 k2 => by unfold Zn at k1 k2; omega, fun z k => by unfold Zn at k; omega, by omega, hT.chg.size, HCA.out.trans hT.chg (fun z f => .inr (by have := hFd z f; omega))⟩
      clear hT hFd hrow HRun1 HRun2 HD3A HS3 hV
      generalize (((decL bs l ⟨5, 4294967295, Rc.code5 bs⟩ (List.replicate N 1024)).2.1.n : Nat) : Int) = used at *
      generalize w2.heap.size = p1 at *
      generalize w3.heap.size = p2 at *
      generalize w4.heap.size = q2 at *
      generalize wr.heap.size = p5 at *
      generalize w8.heap.size = p6 at *
      generalize w9.heap.size = q6 at *
      generalize w10.heap.size = B8 at *
      subst hlw
      obtain ⟨X0, hX0⟩ : ∃ X0, List.replicate N (1024 : Int) = X0 := ⟨_, rfl⟩
      rw [hX0] at HTwo HV
      obtain ⟨D0, hD0⟩ : ∃ D0 : Rc.D, ⟨5, 4294967295, Rc.code5 bs⟩ = D0 := ⟨_, rfl⟩
      rw [hD0] at HTwo HV
      clear hX0 hD0
      go_wp2_with fail
      go_loopw [25, 26, 136] (fun lx ly iv wr => ∃ (k1 k2 : Nat) (vx vy : List Nat) (d1 d2 : Rc.D) (x1 x2 : List Int) (j : Nat), j ≤ T ∧ iv = .int .i64 (j : Int) ∧ k1 = min ((tl.take j).countP id) V ∧ k2 = min (j - (tl.take j).countP id) V ∧ Hid (Two Dec w0 wr B8 bs l D0 X0 (.slice wa V wc) p1 p2 p5 p6 a1 s1 v1 u1 p2 q2 p6 q6 a2 s2 v2 u2 k1 k2 lx ly vx vy d1 d2 x1 x2)) (fun _ _ iv _ => T - (intOf iv).toNat)
      case atStart => exact ⟨0, 0, [], [], D0, D0, X0, X0, 0, Nat.zero_le _, rfl, by simp, by simp, HTwo.out⟩
      case round =>
        clear HTwo
        obtain ⟨k1, k2, vx, vy, d1, d2, x1, x2, j, hj, rfl, hk1, hk2, HT⟩ := hrel
        have HK1 : Hid (k1 = min ((tl.take j).countP id) V) := hk1
        have HK2 : Hid (k2 = min (j - (tl.take j).countP id) V) := hk2
        obtain ⟨xa, xc, hlx⟩ := form1 HT.out.rx
        obtain ⟨ya, yc, hly⟩ := form1 HT.out.ry
        subst hlx hly
        clear hk1 hk2
        by_cases hjT : j < T
        · obtain ⟨f, hf⟩ : ∃ f, tl[j]? = some f := ⟨_, List.getElem?_eq_getElem (by rw [HTL.out]; exact hjT)⟩
          obtain ⟨tb, toff, et, htc⟩ := (HF0.out.new HT.out.chg) j f hf
          have HCS : Hid ((tl.take (j + 1)).countP id = (tl.take j).countP id + (if f then 1 else 0)) := cnt_step hf
          have hjTi : (j : Int) < (T : Int) := by omega
          subst et
          have HCL : Hid ((tl.take j).countP id ≤ j) := cnt_le tl j
          clear hf
          cases f with
          | true =>
            have HC1 : Hid ((tl.take (j + 1)).countP id = (tl.take j).countP id + 1) := by show _ = _; have h9 := HCS.out; simpa using h9
            by_cases hkV : k1 < V
            · obtain ⟨q, x, d', xs', hq, hdA, hdL, hap⟩ := (HT.out.ap1).step hdig (by rw [HV.out]; exact hkV)
              obtain ⟨ab9, off, ea, _⟩ := HA0.out k1 q hq
              have HQ1 : Hid (Asks wr (some ⟨ab9, off + k1 * 4, none⟩) [q]) := asks_one (by rw [← ea]; exact HA0.out.new HT.out.chg) hq
              have HAP : Hid (Ap bs l D0 X0 (k1 + 1) (vx ++ [x]) d' xs') := hap
              have HDL : Hid (decL bs [q] d1 x1 = ([x], d', xs', true)) := hdL
              have HOLD : Hid (ab9 < w0.heap.size) := HA0.out.old _ ea (fun f => by rw [f] at hq; simp at hq)
              have HPB : Hid (p1 ≤ wr.heap.size) := Nat.le_trans (S.base HT.out.one.dec) (by obtain ⟨cs, hb⟩ := S.blk HT.out.one.dec; exact Nat.le_of_lt (lt_of_blk hb))
              have hcv1 : (k1 : Int) + 1 ≤ (cv : Int) := by omega
              have hkl : (k1 : Int) < (V : Int) := by omega
              have hdl : decide ((k1 : Int) < (V : Int)) = true := by simp; omega
              have hw1 : k1 + 1 ≤ cv := by omega
              have hw2 : k1 ≤ cv := by omega
              subst ea
              clear hq hdA hdL hap
              go_wp2_with fail
              refine (answered_any S p1 p5 a1 s1 v1 u1 bs d1 x1 (some ⟨ab9, off + k1 * 4, none⟩) 1 (cv - k1) [q] _ HT.out.one.dec HT.out.ap1.ok hdig (by rw [HBL.out]; exact hnb) HT.out.one.st HT.out.ap1.inn HPB.out HQ1.out rfl (by omega) ?_).mono ?_
              · intro y ey hne f
                cases ey
                have h9 := HT.out.low _ (.inl (HT.out.one.foot S f))
                have h8 := HOLD.out
                simp only at h9
                omega
              rintro z w12 ⟨lz, rfl, hT⟩
              rw [HDL.out] at hT ⊢
              have hTd := HT.out.told S (q := q) hT
              obtain ⟨hx12, hz12, hc12⟩ := hTd
              obtain ⟨za, zc, hlz⟩ := form1 hz12
              subst hlz
              obtain ⟨jU, hjU, hjz, hj1, hj4⟩ := info_parts infoU32
              have hsrc := own_from hz12
              have hbig : B8 ≤ w12.heap.size := Nat.le_trans HT.out.big hc12.size
              have HTold : Hid (Told Dec wr w12 p1 p5 a1 s1 v1 u1 bs ([x], d', xs', true) (.slice za 1 zc)) := hT
              clear hz12 hc12 hT
              go_wp2_with (at_builtin; refine wpList_append_moved rfl _ _ 35 rfl B8 38 jU (.int .u32 0) 1 4 Try.underlying35 hjU hjz hj1 hj4 rfl (by decide) _ k1 (ins .u32 (nums vx)) rfl za 1 zc rfl [.int .u32 (x : Int)] hx12 hsrc (fun u hu => by simp at hu; subst hu; rfl) (by unfold maxLen; omega) (by omega) hbig ?_)
              intro lx' w13 ho hg hm
              have HT3 : Hid (Two Dec w0 w13 B8 bs l D0 X0 (.slice wa V wc) p1 p2 p5 p6 a1 s1 v1 u1 p2 q2 p6 q6 a2 s2 v2 u2 (k1 + 1) k2 lx' (.slice ya k2 yc) (vx ++ [x]) vy d' d2 xs' x2) := (HT.out.first S HTold.out HAP.out ho hg hm)
              obtain ⟨xa', xc', hlx'⟩ := form1 HT3.out.rx
              subst hlx'
              clear ho hg hm hx12 hsrc HTold
              go_wp2_with fail
              go_roundw
              case rel => exact ⟨k1 + 1, k2, vx ++ [x], vy, d', d2, xs', x2, j + 1, by omega, by go_num, by rw [HC1.out]; have := HK1.out; have := HK2.out; have := HCL.out; omega, by rw [HC1.out]; have := HK1.out; have := HK2.out; have := HCL.out; omega, HT3.out⟩
              case measure => simp [intOf]; omega
            · have hkl : ¬ ((k1 : Int) < (V : Int)) := by omega
              have hdl : decide ((k1 : Int) < (V : Int)) = false := by simp; omega
              go_wp2_with fail
              go_roundw
              case rel => exact ⟨k1, k2, vx, vy, d1, d2, x1, x2, j + 1, by omega, by go_num, by rw [HC1.out]; have := HK1.out; have := HK2.out; have := HCL.out; omega, by rw [HC1.out]; have := HK1.out; have := HK2.out; have := HCL.out; omega, HT.out⟩
              case measure => simp [intOf]; omega
          | false =>
            have HC1 : Hid ((tl.take (j + 1)).countP id = (tl.take j).countP id) := by show _ = _; have h9 := HCS.out; simpa using h9
            by_cases hkV : k2 < V
            · obtain ⟨q, x, d', xs', hq, hdA, hdL, hap⟩ := (HT.out.swap.ap1).step hdig (by rw [HV.out]; exact hkV)
              obtain ⟨ab9, off, ea, _⟩ := HA0.out k2 q hq
              have HQ1 : Hid (Asks wr (some ⟨ab9, off + k2 * 4, none⟩) [q]) := asks_one (by rw [← ea]; exact HA0.out.new HT.out.chg) hq
              have HAP : Hid (Ap bs l D0 X0 (k2 + 1) (vy ++ [x]) d' xs') := hap
              have HDL : Hid (decL bs [q] d2 x2 = ([x], d', xs', true)) := hdL
              have HOLD : Hid (ab9 < w0.heap.size) := HA0.out.old _ ea (fun f => by rw [f] at hq; simp at hq)
              have HPB : Hid (p2 ≤ wr.heap.size) := Nat.le_trans (S.base HT.out.swap.one.dec) (by obtain ⟨cs, hb⟩ := S.blk HT.out.swap.one.dec; exact Nat.le_of_lt (lt_of_blk hb))
              have hcv1 : (k2 : Int) + 1 ≤ (cv : Int) := by omega
              have hkl : (k2 : Int) < (V : Int) := by omega
              have hdl : decide ((k2 : Int) < (V : Int)) = true := by simp; omega
              have hw1 : k2 + 1 ≤ cv := by omega
              have hw2 : k2 ≤ cv := by omega
              subst ea
              clear hq hdA hdL hap
              go_wp2_with fail
              refine (answered_any S p2 p6 a2 s2 v2 u2 bs d2 x2 (some ⟨ab9, off + k2 * 4, none⟩) 1 (cv - k2) [q] _ HT.out.swap.one.dec HT.out.swap.ap1.ok hdig (by rw [HBL.out]; exact hnb) HT.out.swap.one.st HT.out.swap.ap1.inn HPB.out HQ1.out rfl (by omega) ?_).mono ?_
              · intro y ey hne f
                cases ey
                have h9 := HT.out.swap.low _ (.inl (HT.out.swap.one.foot S f))
                have h8 := HOLD.out
                simp only at h9
                omega
              rintro z w12 ⟨lz, rfl, hT⟩
              rw [HDL.out] at hT ⊢
              have hTd := HT.out.swap.told S (q := q) hT
              obtain ⟨hx12, hz12, hc12⟩ := hTd
              obtain ⟨za, zc, hlz⟩ := form1 hz12
              subst hlz
              obtain ⟨jU, hjU, hjz, hj1, hj4⟩ := info_parts infoU32
              have hsrc := own_from hz12
              have hbig : B8 ≤ w12.heap.size := Nat.le_trans HT.out.big hc12.size
              have HTold : Hid (Told Dec wr w12 p2 p6 a2 s2 v2 u2 bs ([x], d', xs', true) (.slice za 1 zc)) := hT
              clear hz12 hc12 hT
              go_wp2_with (at_builtin; refine wpList_append_moved rfl _ _ 35 rfl B8 38 jU (.int .u32 0) 1 4 Try.underlying35 hjU hjz hj1 hj4 rfl (by decide) _ k2 (ins .u32 (nums vy)) rfl za 1 zc rfl [.int .u32 (x : Int)] hx12 hsrc (fun u hu => by simp at hu; subst hu; rfl) (by unfold maxLen; omega) (by omega) hbig ?_)
              intro lx' w13 ho hg hm
              have HT3 : Hid (Two Dec w0 w13 B8 bs l D0 X0 (.slice wa V wc) p1 p2 p5 p6 a1 s1 v1 u1 p2 q2 p6 q6 a2 s2 v2 u2 k1 (k2 + 1) (.slice xa k1 xc) lx' vx (vy ++ [x]) d1 d' x1 xs') := (HT.out.swap.first S HTold.out HAP.out ho hg hm).swap
              obtain ⟨xa', xc', hlx'⟩ := form1 HT3.out.ry
              subst hlx'
              clear ho hg hm hx12 hsrc HTold
              go_wp2_with fail
              go_roundw
              case rel => exact ⟨k1, k2 + 1, vx, vy ++ [x], d1, d', x1, xs', j + 1, by omega, by go_num, by rw [HC1.out]; have := HK1.out; have := HK2.out; have := HCL.out; omega, by rw [HC1.out]; have := HK1.out; have := HK2.out; have := HCL.out; omega, HT3.out⟩
              case measure => simp [intOf]; omega
            · have hkl : ¬ ((k2 : Int) < (V : Int)) := by omega
              have hdl : decide ((k2 : Int) < (V : Int)) = false := by simp; omega
              go_wp2_with fail
              go_roundw
              case rel => exact ⟨k1, k2, vx, vy, d1, d2, x1, x2, j + 1, by omega, by go_num, by rw [HC1.out]; have := HK1.out; have := HK2.out; have := HCL.out; omega, by rw [HC1.out]; have := HK1.out; have := HK2.out; have := HCL.out; omega, HT.out⟩
              case measure => simp [intOf]; omega
        · obtain rfl : T = j := by omega
          have hdj : decide ((T : Int) < (T : Int)) = false := by simp
          have hk1V : k1 ≤ V := by have := HK1.out; omega
          have hk2V : k2 ≤ V := by have := HK2.out; omega
          generalize wr = wB at *
          go_wp2_with fail
          go_loopw [192] (fun iv wr => ∃ i : Nat, i ≤ k1 ∧ iv = .int .i64 (i : Int) ∧ Hid (Chg (fun _ => False) wB wr)) (fun iv _ => k1 - (intOf iv).toNat)
          case atStart => exact ⟨0, Nat.zero_le _, rfl, Chg.refl _ _⟩
          case round =>
            obtain ⟨i, hi, rfl, HCR⟩ := hrel
            by_cases hik : i < k1
            · obtain ⟨x, hx, hx2⟩ := HT.out.ap1.at hik
              obtain ⟨g1, c1, e1, _, _, _, _, _, f1⟩ := own_some (ownsRow_keep HT.out.rx HCR.out (fun _ _ f => f)) (by omega)
              have hrw := HT.out.rw_
              rw [HV.out] at hrw
              obtain ⟨g2, c2, e2, _, _, _, _, _, f2⟩ := own_some (ownsRow_keep hrw HCR.out (fun _ _ f => f)) (by omega)
              cases e1
              cases e2
              have hc1 : wr.cell? ⟨g1, i, none⟩ = some (.int .u32 (x : Int)) := f1 i _ (by simp [ins, nums, hx])
              have hc2 : wr.cell? ⟨g2, i, none⟩ = some (.int .u32 (x : Int)) := f2 i _ (by simp only [ins, nums, List.getElem?_map, hx2]; rfl)
              have hiV : i < V := by omega
              clear f1 f2 hx hx2 hrw
              go_wp2_with fail
              go_quiet (fail)
              go_wp2_with fail
              go_roundw
              case rel => exact ⟨i + 1, by omega, by go_num, chg_then HCR.out (chg_drewN _ _)⟩
              case measure => simp [intOf]; omega
            · have hik9 : k1 = i := by omega
              subst hik9
              have hdi : decide ((k1 : Int) < (k1 : Int)) = false := by simp
              have HC_wC : Hid (Chg (fun _ => False) wB wr) := HCR.out
              clear HCR
              generalize wr = wC at *
              go_wp2_with fail
              go_loopw [207] (fun iv wr => ∃ i : Nat, i ≤ k2 ∧ iv = .int .i64 (i : Int) ∧ Hid (Chg (fun _ => False) wB wr)) (fun iv _ => k2 - (intOf iv).toNat)
              case atStart => exact ⟨0, Nat.zero_le _, rfl, HC_wC.out⟩
              case round =>
                obtain ⟨i, hi, rfl, HCR⟩ := hrel
                by_cases hik : i < k2
                · obtain ⟨x, hx, hx2⟩ := HT.out.ap2.at hik
                  obtain ⟨g1, c1, e1, _, _, _, _, _, f1⟩ := own_some (ownsRow_keep HT.out.ry HCR.out (fun _ _ f => f)) (by omega)
                  have hrw := HT.out.rw_
                  rw [HV.out] at hrw
                  obtain ⟨g2, c2, e2, _, _, _, _, _, f2⟩ := own_some (ownsRow_keep hrw HCR.out (fun _ _ f => f)) (by omega)
                  cases e1
                  cases e2
                  have hc1 : wr.cell? ⟨g1, i, none⟩ = some (.int .u32 (x : Int)) := f1 i _ (by simp [ins, nums, hx])
                  have hc2 : wr.cell? ⟨g2, i, none⟩ = some (.int .u32 (x : Int)) := f2 i _ (by simp only [ins, nums, List.getElem?_map, hx2]; rfl)
                  have hiV : i < V := by omega
                  clear f1 f2 hx hx2 hrw
                  go_wp2_with fail
                  go_quiet (fail)
                  go_wp2_with fail
                  go_roundw
                  case rel => exact ⟨i + 1, by omega, by go_num, chg_then HCR.out (chg_drewN _ _)⟩
                  case measure => simp [intOf]; omega
                · have hik9 : k2 = i := by omega
                  subst hik9
                  have hdi : decide ((k2 : Int) < (k2 : Int)) = false := by simp
                  have HC_wD : Hid (Chg (fun _ => False) wB wr) := HCR.out
                  clear HCR
                  generalize wr = wD at *
                  have HC0D : Hid (Chg (fun _ => False) w0 wD) := chg_then HT.out.chg HC_wD.out
                  go_wp2_with fail
                  go_loopw [35, 222] (fun dv iv wr => ∃ i : Nat, i ≤ T ∧ iv = .int .i64 (i : Int) ∧ dv = .int .i64 (((tl.take i).countP id : Nat) : Int) ∧ Hid (Chg (fun _ => False) w0 wr)) (fun _ iv _ => T - (intOf iv).toNat)
                  case atStart => exact ⟨0, Nat.zero_le _, rfl, rfl, HC0D.out⟩
                  case round =>
                    obtain ⟨i, hi, rfl, rfl, HCR⟩ := hrel
                    by_cases hiT : i < T
                    · obtain ⟨f, hf⟩ : ∃ f, tl[i]? = some f := ⟨_, List.getElem?_eq_getElem (by rw [HTL.out]; exact hiT)⟩
                      obtain ⟨tb, toff, et, htc⟩ := (HF0.out.new HCR.out) i f hf
                      have HCS : Hid ((tl.take (i + 1)).countP id = (tl.take i).countP id + (if f then 1 else 0)) := cnt_step hf
                      obtain ⟨c, hc⟩ : ∃ c, (tl.take i).countP id = c := ⟨_, rfl⟩
                      have hci : (c : Int) ≤ (i : Int) := by have := cnt_le tl i; omega
                      rw [hc] at HCS ⊢
                      subst et
                      clear hf hc
                      cases f with
                      | true =>
                        have HC1 : Hid ((tl.take (i + 1)).countP id = c + 1) := by show _ = _; have h9 := HCS.out; simpa using h9
                        go_wp2_with fail
                        go_roundw
                        case rel => exact ⟨i + 1, by omega, by go_num, by rw [HC1.out]; go_num, HCR.out⟩
                        case measure => simp [intOf]; omega
                      | false =>
                        have HC1 : Hid ((tl.take (i + 1)).countP id = c) := by show _ = _; have h9 := HCS.out; simpa using h9
                        go_wp2_with fail
                        go_roundw
                        case rel => exact ⟨i + 1, by omega, by go_num, by rw [HC1.out], HCR.out⟩
                        case measure => simp [intOf]; omega
                    · obtain rfl : T = i := by omega
                      have hdi2 : decide ((T : Int) < (T : Int)) = false := by simp
                      have hcT := cnt_le tl T
                      obtain ⟨c, hc⟩ : ∃ c, (tl.take T).countP id = c := ⟨_, rfl⟩
                      rw [hc] at hcT HK1 HK2 ⊢
                      have m1 := HK1.out
                      have m2 := HK2.out
                      clear hc
                      go_wp2
                      all_goals first
                        | (go_ret; refine ⟨?_, HCR.out⟩; congr 2; simp; omega)
                        | (exfalso; omega)
end Go.Proofs.Ytejopgopcocapaa
