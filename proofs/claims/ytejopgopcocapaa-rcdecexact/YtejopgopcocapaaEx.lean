/- The walk of RcdecExact above what is asked of the decoder; of no statement by itself. -/
import Derived.Test.YtejopgopcocapaaExm
import Derived.Deep.DeepCutAuto
namespace Go.Proofs.Ytejopgopcocapaa
open Go.RowKit
set_option linter.unusedVariables false

/-- The bytes, and one more behind them. -/
theorem own_front {w : World} {B g nb lc : Nat} {bs : List Nat} (hl : bs.length = nb) (h : w.ownsRow B 5 1 (.slice (some ⟨g, 0, none⟩) (nb + 1) lc) (nb + 1) (ins .u8 (nums bs) ++ [.int .u8 153])) : Row8 w (some ⟨g, 0, none⟩) nb lc (nums bs) ∧ w.cell? ⟨g, nb, none⟩ = some (.int .u8 153) ∧ nb + 1 ≤ lc := by
  obtain ⟨g', cap, e, hc, _, _, _, _, hcl⟩ := own_some h (by omega)
  cases e
  refine ⟨⟨by rw [nums_len]; exact hl, .inr ⟨_, rfl, fun j x hx => ?_⟩⟩, hcl nb _ ?_, hc⟩
  · rw [addk, Nat.zero_add]
    refine hcl j x ?_
    have hj : j < (ins .u8 (nums bs)).length := (List.getElem?_eq_some_iff.1 hx).1
    rw [List.getElem?_append_left hj]
    exact hx
  · rw [List.getElem?_append_right (by rw [ins_len, nums_len]; omega), ins_len, nums_len, hl, Nat.sub_self]
    rfl
set_option maxHeartbeats 8000000 in
set_option maxRecDepth 100000 in
theorem exact_any {Dec : World → Nat → Nat → Value → List Nat → Rc.D → Prop} (S : DecSpec Dec) (ab : Option Addr) (nb cb : Nat) (bs : List Nat) (n : Int) (av : Option Addr) (L cv : Nat) (l : List Q) (w0 : World) (hb : Row8 w0 ab nb cb (nums bs)) (hdig : Rc.Dig bs) (hnb : nb + 1 ≤ 140737488355328) (hA : Asks w0 av l) (hL : l.length = L) (hl : L ≤ 4398046510976) : Calls Try.prog 7 #[.slice ab nb cb, .int .i64 n, .slice av L cv] w0 fun x w' => x = .returned (.bool true) ∧ Chg (fun _ => False) w0 w' := by
  have HA0 : Hid (Asks w0 av l) := hA
  have HLL : Hid (l.length = L) := hL
  have HB0 : Hid (Row8 w0 ab nb cb (nums bs)) := hb
  have HBL : Hid (bs.length = nb) := by have := hb.1; rw [nums_len] at this; exact this
  clear hA hL hb
  by_cases hn0 : n < 0
  · go_enter Try.func7, Try.ntmps7
    go_wp2_with fail
    refine (known_any S _).mono ?_
    rintro z w1 ⟨rfl, c1⟩
    have HCE : Hid (Chg (fun _ => False) w0 w1) := c1
    clear c1
    go_wp2
    go_ret
    exact ⟨rfl, HCE.out⟩
  by_cases hn64 : 64 < n
  · have hd0 : decide (n < 0) = false := by simp; omega
    go_enter Try.func7, Try.ntmps7
    go_wp2_with fail
    refine (known_any S _).mono ?_
    rintro z w1 ⟨rfl, c1⟩
    have HCE : Hid (Chg (fun _ => False) w0 w1) := c1
    clear c1
    go_wp2
    go_ret
    exact ⟨rfl, HCE.out⟩
  obtain ⟨N, rfl⟩ := Int.eq_ofNat_of_zero_le (show 0 ≤ n by omega)
  have hd0 : decide ((N : Int) < 0) = false := by simp
  have hd1 : decide ((64 : Int) < (N : Int)) = false := by simp; omega
  clear hn0
  obtain ⟨iu, hiu, hu0, hu1, hu2⟩ := info_parts infoU8
  have hone := ins_one .u8 (nums bs)
  have HC0 : Hid (Chg (fun _ => False) w0 w0) := Chg.refl _ _
  have cE := chg_one w0 (.cells #[] 5)
  have hoE := own_empty w0 5
  have hF : From (w0.alloc (.cells #[] 5)) ab nb cb 1 (ins .u8 (nums bs)) := (Bk.row8_chg HB0.out cE).src
  have hs : w0.heap.size ≤ (w0.alloc (.cells #[] 5)).heap.size := cE.size
  go_enter Try.func7, Try.ntmps7
  go_wp2_with (at_builtin; refine wpList_append_moved rfl _ _ 22 rfl w0.heap.size 5 iu (.int .u8 0) 1 1 Try.underlying22 hiu hu0 hu1 hu2 rfl (by decide) _ 0 [] rfl ab nb cb rfl (ins .u8 (nums bs)) hoE hF hone (by unfold maxLen; omega) (by omega) hs ?_)
  intro v2 w2 ho2 hg2 _
  have c2 : Chg (fun _ => False) w0 w2 := cE.grown hg2 (fun k e => .inr (by cases e; exact Nat.le_refl _))
  have ho2' : w2.ownsRow w0.heap.size 5 1 v2 nb (ins .u8 (nums bs)) := by simpa using ho2
  obtain ⟨oa, oc, hv2⟩ := form1 ho2'
  subst hv2
  have cB := chg_one w2 (.cells #[.int .u8 153] 5)
  have hsrc := from_one8 w2 (.int .u8 153) 5
  have ho3 := ownsRow_keep ho2' cB (fun _ _ f => f)
  have hs3 : w0.heap.size ≤ (w2.alloc (.cells #[.int .u8 153] 5)).heap.size := Nat.le_trans c2.size cB.size
  have HC2 : Hid (Chg (fun _ => False) w0 (w2.alloc (.cells #[.int .u8 153] 5))) := chg_then c2 cB
  clear ho2 hg2 hoE hF hs cE c2 cB ho2'
  go_wp2_with (at_builtin; refine wpList_append_moved rfl _ _ 22 rfl w0.heap.size 5 iu (.int .u8 0) 1 1 Try.underlying22 hiu hu0 hu1 hu2 rfl (by decide) _ nb (ins .u8 (nums bs)) rfl (some ⟨w2.heap.size, 0, none⟩) 1 1 rfl [.int .u8 153] ho3 hsrc (fun u hu => by simp at hu; subst hu; rfl) (by unfold maxLen; omega) (by omega) hs3 ?_)
  intro v3 w3 ho4 hg4 _
  have HC3 : Hid (Chg (fun _ => False) w0 w3) := HC2.out.grown hg4 (fun k e => .inr (ho3.lt k e).1)
  obtain ⟨lg, lc, hv3, _, hlg, _⟩ := own_some ho4 (by omega)
  subst hv3
  have HOL : Hid (w3.ownsRow w0.heap.size 5 1 (.slice (some ⟨lg, 0, none⟩) (nb + 1) lc) (nb + 1) (ins .u8 (nums bs) ++ [.int .u8 153])) := ho4
  obtain ⟨hrl, hcl, hlc⟩ := own_front HBL.out ho4
  have HRL3 : Hid (Row8 w3 (some ⟨lg, 0, none⟩) nb lc (nums bs)) := hrl
  have HLG : Hid (w0.heap.size ≤ lg ∧ lg < w3.heap.size) := ⟨hlg, (ho4.lt lg rfl).2⟩
  have hlci : (nb : Int) ≤ (lc : Int) := by omega
  have hlcn : nb ≤ lc := by omega
  clear ho3 hsrc hs3 ho4 hg4 hrl hcl HC2 hlg
  by_cases hgood : 5 ≤ bs.length ∧ bs.getD 0 0 = 0 ∧ Rc.code5 bs < 4294967295
  rotate_left
  · obtain ⟨e, hne, hnew, hrew⟩ := both_bad S hdig hgood
    have HNEW : Hid (∀ ad n c w, Row8 w ad n c (nums bs) → n ≤ 140737488355328 → Calls Try.prog 9 #[.slice ad n c] w fun x w' => x = .returned (.tuple #[.pointer none, .int .i64 e]) ∧ Chg (fun _ => False) w w') := hnew
    have HREW : Hid (∀ ad n c w, Row8 w ad n c (nums bs) → n ≤ 140737488355328 → Calls Try.prog 20 #[.slice ad n c] w fun x w' => x = .returned (.tuple #[.pointer none, .int .i64 e]) ∧ w = w') := hrew
    clear hne hnew hrew hgood
    go_wp2_with fail
    refine (HNEW.out _ _ _ _ HRL3.out (by omega)).mono ?_
    rintro z W ⟨rfl, c4⟩
    have HC4 : Hid (Chg (fun _ => False) w0 W) := chg_then HC3.out c4
    have HRL : Hid (Row8 W (some ⟨lg, 0, none⟩) nb lc (nums bs)) := Bk.row8_chg HRL3.out c4
    have HRB : Hid (Row8 W ab nb cb (nums bs)) := Bk.row8_chg HB0.out HC4.out
    have HCL : Hid (W.cell? ⟨lg, nb, none⟩ = some (.int .u8 153)) := (own_front HBL.out (ownsRow_keep HOL.out c4 (fun _ _ f => f))).2.1
    clear c4
    go_wp2_with fail
    refine (HREW.out _ _ _ _ HRB.out (by omega)).mono ?_
    rintro z w9 ⟨rfl, rfl⟩
    go_wp2_with fail
    refine wp_region_phaseQ (mk := fun u => #[_, _, _, _, _, _, _, _, _, _, _, _, _, _, _, _, _, _, _, _, _, _, _, _, _, _, _, _, _, _, _, _, _, _, _, _, _, _, _, _, _, _, _, _, _, _, _, _, _, _, _, _, u 52, u 53, u 54, u 55, u 56, u 57, u 58, u 59, u 60, u 61, u 62, u 63, u 64, u 65, u 66, u 67, u 68, u 69, u 70, u 71, u 72, u 73, u 74, u 75, u 76, u 77, u 78, u 79, _, _, _, _, _, _, _, _, _, _, _, _, _, _, _, _, _, _, _, _, _, _, _, _, _, _, _, _, _, _, _, _, _, _, _, _, _, _, _, _, _, _, _, _, _, _, _, _, _, _, _, _, _, _, _, _, _, _, _, _, _, _, _, _, _, _, _, _, _, _, _, _, _, _, _, _, _, _, _, _, _, _, _, _, _, _, _, _, _, _, _, _, _, _, _, _, _, _, _, _, _, _, _, _, _, _]) (G := lookG [(52, .int .i64 e), (53, .int .i64 e), (54, .int .i64 e), (55, .bool false), (56, .bool false), (57, .pointer none), (58, .bool true), (59, .pointer none), (60, .bool true), (61, .bool false), (62, .bool false), (63, .bool false), (64, .slice (some ⟨lg, 0, none⟩) (nb + 1) lc), (65, .slice ab nb cb), (66, .int .i64 (nb : Int)), (67, .slice (some ⟨lg, 0, none⟩) nb lc), (68, .string (strOfNums (nums bs))), (69, .slice ab nb cb), (70, .string (strOfNums (nums bs))), (71, .bool false), (72, .bool false), (73, .bool false), (74, .slice (some ⟨lg, 0, none⟩) (nb + 1) lc), (75, .slice ab nb cb), (76, .int .i64 (nb : Int)), (77, .pointer (some ⟨lg, nb, none⟩)), (78, .int .u8 153), (79, .bool false)]) (J := fun _ _ w => Chg (fun _ => False) W w) [] (fun i =>  0) ([]) (fun _ => undef) rfl (by kernel_rfl) 28 _ rfl rfl (by kernel_rfl) (by kernel_rfl) (by kernel_rfl) (by decide) ?_ ?_ ?_ (by kernel_rfl) ?_ ?_
    · repeat (refine ⟨fun _ _ => rfl, ?_⟩)
      exact trivial
    · exact fun q u u2 w _ h => h
    · exact (Chg.refl _ _).drew
    · refine ⟨?_, ?_, ?_, ?_, ?_, ?_, ?_, ?_, ?_, ?_, ?_, ?_, ?_, ?_, ?_, ?_, ?_, ?_, ?_, ?_, ?_, ?_, ?_, ?_, ?_, ?_, ?_, ?_, trivial⟩
      · show StepRQ _ _ _ _ _ _ _ _ _ -- 52
        unfold StepRQ
        intro q hq u w hj hd K hK
        clear hd
        go_simp
        exact hK.out (.int .i64 e) rfl
      · show StepRQ _ _ _ _ _ _ _ _ _ -- 53
        unfold StepRQ
        intro q hq u w hj hd K hK
        have h52 : u 52 = .int .i64 e := hd.get 0 (by kernel_rfl)
        clear hd
        simp only [h52] at hK
        go_simp
        go_at_call 10
        refine (num_any _ _).mono ?_
        rintro x w2 ⟨rfl, rfl⟩
        exact hK.out _ rfl
      · show StepRQ _ _ _ _ _ _ _ _ _ -- 54
        unfold StepRQ
        intro q hq u w hj hd K hK
        clear hd
        go_simp
        exact hK.out (.int .i64 e) rfl
      · show StepRQ _ _ _ _ _ _ _ _ _ -- 55
        unfold StepRQ
        intro q hq u w hj hd K hK
        have h53 : u 53 = .int .i64 e := hd.get 1 (by kernel_rfl)
        have h54 : u 54 = .int .i64 e := hd.get 2 (by kernel_rfl)
        clear hd
        simp only [h53, h54] at hK
        go_simp
        exact hK.out (.bool false) rfl
      · show StepRQ _ _ _ _ _ _ _ _ _ -- 56
        unfold StepRQ
        intro q hq u w hj hd K hK
        have h55 : u 55 = .bool false := hd.get 3 (by kernel_rfl)
        clear hd
        simp only [h55] at hK
        go_simp
        exact hK.out (.bool false) rfl
      · show StepRQ _ _ _ _ _ _ _ _ _ -- 57
        unfold StepRQ
        intro q hq u w hj hd K hK
        have h56 : u 56 = .bool false := hd.get 4 (by kernel_rfl)
        clear hd
        simp only [h56] at hK
        go_simp
        exact hK.out (.pointer none) rfl
      · show StepRQ _ _ _ _ _ _ _ _ _ -- 58
        unfold StepRQ
        intro q hq u w hj hd K hK
        have h57 : u 57 = .pointer none := hd.get 5 (by kernel_rfl)
        have h56 : u 56 = .bool false := hd.get 4 (by kernel_rfl)
        clear hd
        simp only [h57, h56] at hK
        go_simp
        exact hK.out (.bool true) rfl
      · show StepRQ _ _ _ _ _ _ _ _ _ -- 59
        unfold StepRQ
        intro q hq u w hj hd K hK
        have h56 : u 56 = .bool false := hd.get 4 (by kernel_rfl)
        clear hd
        simp only [h56] at hK
        go_simp
        exact hK.out (.pointer none) rfl
      · show StepRQ _ _ _ _ _ _ _ _ _ -- 60
        unfold StepRQ
        intro q hq u w hj hd K hK
        have h59 : u 59 = .pointer none := hd.get 7 (by kernel_rfl)
        have h56 : u 56 = .bool false := hd.get 4 (by kernel_rfl)
        clear hd
        simp only [h59, h56] at hK
        go_simp
        exact hK.out (.bool true) rfl
      · show StepRQ _ _ _ _ _ _ _ _ _ -- 61
        unfold StepRQ
        intro q hq u w hj hd K hK
        have h58 : u 58 = .bool true := hd.get 6 (by kernel_rfl)
        have h60 : u 60 = .bool true := hd.get 8 (by kernel_rfl)
        have h56 : u 56 = .bool false := hd.get 4 (by kernel_rfl)
        clear hd
        simp only [h58, h60, h56] at hK
        go_simp
        exact hK.out (.bool false) rfl
      · show StepRQ _ _ _ _ _ _ _ _ _ -- 62
        unfold StepRQ
        intro q hq u w hj hd K hK
        have h56 : u 56 = .bool false := hd.get 4 (by kernel_rfl)
        have h61 : u 61 = .bool false := hd.get 9 (by kernel_rfl)
        clear hd
        simp only [h56, h61] at hK
        go_simp
        exact hK.out (.bool false) rfl
      · show StepRQ _ _ _ _ _ _ _ _ _ -- 63
        unfold StepRQ
        intro q hq u w hj hd K hK
        have h62 : u 62 = .bool false := hd.get 10 (by kernel_rfl)
        clear hd
        simp only [h62] at hK
        go_simp
        exact hK.out (.bool false) rfl
      · show StepRQ _ _ _ _ _ _ _ _ _ -- 64
        unfold StepRQ
        intro q hq u w hj hd K hK
        have h63 : u 63 = .bool false := hd.get 11 (by kernel_rfl)
        clear hd
        simp only [h63] at hK
        go_simp
        exact hK.out (.slice (some ⟨lg, 0, none⟩) (nb + 1) lc) rfl
      · show StepRQ _ _ _ _ _ _ _ _ _ -- 65
        unfold StepRQ
        intro q hq u w hj hd K hK
        have h63 : u 63 = .bool false := hd.get 11 (by kernel_rfl)
        clear hd
        simp only [h63] at hK
        go_simp
        exact hK.out (.slice ab nb cb) rfl
      · show StepRQ _ _ _ _ _ _ _ _ _ -- 66
        unfold StepRQ
        intro q hq u w hj hd K hK
        have h65 : u 65 = .slice ab nb cb := hd.get 13 (by kernel_rfl)
        have h63 : u 63 = .bool false := hd.get 11 (by kernel_rfl)
        clear hd
        simp only [h65, h63] at hK
        go_simp
        exact hK.out (.int .i64 (nb : Int)) rfl
      · show StepRQ _ _ _ _ _ _ _ _ _ -- 67
        unfold StepRQ
        intro q hq u w hj hd K hK
        have h64 : u 64 = .slice (some ⟨lg, 0, none⟩) (nb + 1) lc := hd.get 12 (by kernel_rfl)
        have h66 : u 66 = .int .i64 (nb : Int) := hd.get 14 (by kernel_rfl)
        have h63 : u 63 = .bool false := hd.get 11 (by kernel_rfl)
        clear hd
        simp only [h64, h66, h63] at hK
        go_simp
        exact hK.out (.slice (some ⟨lg, 0, none⟩) nb lc) rfl
      · show StepRQ _ _ _ _ _ _ _ _ _ -- 68
        unfold StepRQ
        intro q hq u w hj hd K hK
        have h67 : u 67 = .slice (some ⟨lg, 0, none⟩) nb lc := hd.get 15 (by kernel_rfl)
        have h63 : u 63 = .bool false := hd.get 11 (by kernel_rfl)
        clear hd
        simp only [h67, h63] at hK
        have hcv := Bk.conv8_here (Bk.row8_chg HRL.out hj)
        go_simp
        exact hK.out _ rfl
      · show StepRQ _ _ _ _ _ _ _ _ _ -- 69
        unfold StepRQ
        intro q hq u w hj hd K hK
        have h63 : u 63 = .bool false := hd.get 11 (by kernel_rfl)
        clear hd
        simp only [h63] at hK
        go_simp
        exact hK.out (.slice ab nb cb) rfl
      · show StepRQ _ _ _ _ _ _ _ _ _ -- 70
        unfold StepRQ
        intro q hq u w hj hd K hK
        have h69 : u 69 = .slice ab nb cb := hd.get 17 (by kernel_rfl)
        have h63 : u 63 = .bool false := hd.get 11 (by kernel_rfl)
        clear hd
        simp only [h69, h63] at hK
        have hcv := Bk.conv8_here (Bk.row8_chg HRB.out hj)
        go_simp
        exact hK.out _ rfl
      · show StepRQ _ _ _ _ _ _ _ _ _ -- 71
        unfold StepRQ
        intro q hq u w hj hd K hK
        have h68 : u 68 = .string (strOfNums (nums bs)) := hd.get 16 (by kernel_rfl)
        have h70 : u 70 = .string (strOfNums (nums bs)) := hd.get 18 (by kernel_rfl)
        have h63 : u 63 = .bool false := hd.get 11 (by kernel_rfl)
        clear hd
        simp only [h68, h70, h63] at hK
        go_simp
        exact hK.out (.bool false) rfl
      · show StepRQ _ _ _ _ _ _ _ _ _ -- 72
        unfold StepRQ
        intro q hq u w hj hd K hK
        have h63 : u 63 = .bool false := hd.get 11 (by kernel_rfl)
        have h71 : u 71 = .bool false := hd.get 19 (by kernel_rfl)
        clear hd
        simp only [h63, h71] at hK
        go_simp
        exact hK.out (.bool false) rfl
      · show StepRQ _ _ _ _ _ _ _ _ _ -- 73
        unfold StepRQ
        intro q hq u w hj hd K hK
        have h72 : u 72 = .bool false := hd.get 20 (by kernel_rfl)
        clear hd
        simp only [h72] at hK
        go_simp
        exact hK.out (.bool false) rfl
      · show StepRQ _ _ _ _ _ _ _ _ _ -- 74
        unfold StepRQ
        intro q hq u w hj hd K hK
        have h73 : u 73 = .bool false := hd.get 21 (by kernel_rfl)
        clear hd
        simp only [h73] at hK
        go_simp
        exact hK.out (.slice (some ⟨lg, 0, none⟩) (nb + 1) lc) rfl
      · show StepRQ _ _ _ _ _ _ _ _ _ -- 75
        unfold StepRQ
        intro q hq u w hj hd K hK
        have h73 : u 73 = .bool false := hd.get 21 (by kernel_rfl)
        clear hd
        simp only [h73] at hK
        go_simp
        exact hK.out (.slice ab nb cb) rfl
      · show StepRQ _ _ _ _ _ _ _ _ _ -- 76
        unfold StepRQ
        intro q hq u w hj hd K hK
        have h75 : u 75 = .slice ab nb cb := hd.get 23 (by kernel_rfl)
        have h73 : u 73 = .bool false := hd.get 21 (by kernel_rfl)
        clear hd
        simp only [h75, h73] at hK
        go_simp
        exact hK.out (.int .i64 (nb : Int)) rfl
      · show StepRQ _ _ _ _ _ _ _ _ _ -- 77
        unfold StepRQ
        intro q hq u w hj hd K hK
        have h74 : u 74 = .slice (some ⟨lg, 0, none⟩) (nb + 1) lc := hd.get 22 (by kernel_rfl)
        have h76 : u 76 = .int .i64 (nb : Int) := hd.get 24 (by kernel_rfl)
        have h73 : u 73 = .bool false := hd.get 21 (by kernel_rfl)
        clear hd
        simp only [h74, h76, h73] at hK
        have hlt9 : (nb : Int) < (nb : Int) + 1 := by omega
        go_simp
        exact hK.out _ rfl
      · show StepRQ _ _ _ _ _ _ _ _ _ -- 78
        unfold StepRQ
        intro q hq u w hj hd K hK
        have h77 : u 77 = .pointer (some ⟨lg, nb, none⟩) := hd.get 25 (by kernel_rfl)
        have h73 : u 73 = .bool false := hd.get 21 (by kernel_rfl)
        clear hd
        simp only [h77, h73] at hK
        have hcell := cell_chg HCL.out hj
        go_simp
        exact hK.out _ rfl
      · show StepRQ _ _ _ _ _ _ _ _ _ -- 79
        unfold StepRQ
        intro q hq u w hj hd K hK
        have h78 : u 78 = .int .u8 153 := hd.get 26 (by kernel_rfl)
        have h73 : u 73 = .bool false := hd.get 21 (by kernel_rfl)
        clear hd
        simp only [h78, h73] at hK
        go_simp
        exact hK.out (.bool false) rfl
    · intro u w hj hA K hK
      have e73 : u 73 = .bool false := hA.at 73 (by kernel_rfl)
      have e79 : u 79 = .bool false := hA.at 79 (by kernel_rfl)
      clear hA
      have HCW : Hid (Chg (fun _ => False) W w) := hj
      go_simp
      refine hK.out _ _ ?_
      go_wp2_with fail
      refine (known_any S _).mono ?_
      rintro z w7 ⟨rfl, c7⟩
      have HC7 : Hid (Chg (fun _ => False) w0 w7) := chg_then (chg_then HC4.out HCW.out) c7
      clear c7
      go_wp2
      go_ret
      exact ⟨rfl, HC7.out⟩
  have HG : Hid (5 ≤ bs.length ∧ bs.getD 0 0 = 0 ∧ Rc.code5 bs < 4294967295) := hgood
  have HOK : Hid (OkD bs ⟨5, 4294967295, Rc.code5 bs⟩) := ⟨by show 16777216 ≤ 4294967295; omega, by show 4294967295 ≤ 4294967295; omega, hgood.2.2, hgood.1⟩
  clear hgood
  go_wp2_with fail
  refine (prog_good S hdig HG.out _ _ _ _ HRL3.out (by omega)).mono ?_
  rintro z w4 ⟨a, v, rfl, hD4, c4⟩
  have HD4 : Hid (Dec w4 w3.heap.size a v bs ⟨5, 4294967295, Rc.code5 bs⟩) := hD4
  have HC34 : Hid (Chg (fun _ => False) w3 w4) := c4
  have HC4 : Hid (Chg (fun _ => False) w0 w4) := chg_then HC3.out c4
  have HRB4 : Hid (Row8 w4 ab nb cb (nums bs)) := Bk.row8_chg HB0.out HC4.out
  clear c4 hD4
  go_wp2_with fail
  refine (ref_good hdig HG.out _ _ _ _ HRB4.out (by omega)).mono ?_
  rintro z W ⟨r, y, rfl, hR5, c5⟩
  have HR5 : Hid (Rdc W w4.heap.size r y bs ⟨5, 4294967295, Rc.code5 bs⟩) := hR5
  have HC45 : Hid (Chg (fun _ => False) w4 W) := c5
  have HC35 : Hid (Chg (fun _ => False) w3 W) := chg_then HC34.out c5
  have HC5 : Hid (Chg (fun _ => False) w0 W) := chg_then HC4.out c5
  have HRL : Hid (Row8 W (some ⟨lg, 0, none⟩) nb lc (nums bs)) := Bk.row8_chg HRL3.out HC35.out
  have HRB : Hid (Row8 W ab nb cb (nums bs)) := Bk.row8_chg HB0.out HC5.out
  have HCL : Hid (W.cell? ⟨lg, nb, none⟩ = some (.int .u8 153)) := (own_front HBL.out (ownsRow_keep HOL.out HC35.out (fun _ _ f => f))).2.1
  clear hR5 c5
  go_wp2_with fail
  refine wp_region_phaseQ (mk := fun u => #[_, _, _, _, _, _, _, _, _, _, _, _, _, _, _, _, _, _, _, _, _, _, _, _, _, _, _, _, _, _, _, _, _, _, _, _, _, _, _, _, _, _, _, _, _, _, _, _, _, _, _, _, u 52, u 53, u 54, u 55, u 56, u 57, u 58, u 59, u 60, u 61, u 62, u 63, u 64, u 65, u 66, u 67, u 68, u 69, u 70, u 71, u 72, u 73, u 74, u 75, u 76, u 77, u 78, u 79, _, _, _, _, _, _, _, _, _, _, _, _, _, _, _, _, _, _, _, _, _, _, _, _, _, _, _, _, _, _, _, _, _, _, _, _, _, _, _, _, _, _, _, _, _, _, _, _, _, _, _, _, _, _, _, _, _, _, _, _, _, _, _, _, _, _, _, _, _, _, _, _, _, _, _, _, _, _, _, _, _, _, _, _, _, _, _, _, _, _, _, _, _, _, _, _, _, _, _, _, _, _, _, _, _, _]) (G := lookG [(52, .int .i64 0), (53, .int .i64 0), (54, .int .i64 0), (55, .bool false), (56, .bool false), (57, .pointer (some ⟨a, 0, none⟩)), (58, .bool false), (59, .pointer (some ⟨r, 0, none⟩)), (60, .bool false), (61, .bool false), (62, .bool false), (63, .bool false), (64, .slice (some ⟨lg, 0, none⟩) (nb + 1) lc), (65, .slice ab nb cb), (66, .int .i64 (nb : Int)), (67, .slice (some ⟨lg, 0, none⟩) nb lc), (68, .string (strOfNums (nums bs))), (69, .slice ab nb cb), (70, .string (strOfNums (nums bs))), (71, .bool false), (72, .bool false), (73, .bool false), (74, .slice (some ⟨lg, 0, none⟩) (nb + 1) lc), (75, .slice ab nb cb), (76, .int .i64 (nb : Int)), (77, .pointer (some ⟨lg, nb, none⟩)), (78, .int .u8 153), (79, .bool false)]) (J := fun _ _ w => Chg (fun _ => False) W w) [] (fun i =>  0) ([]) (fun _ => undef) rfl (by kernel_rfl) 28 _ rfl rfl (by kernel_rfl) (by kernel_rfl) (by kernel_rfl) (by decide) ?_ ?_ ?_ (by kernel_rfl) ?_ ?_
  · repeat (refine ⟨fun _ _ => rfl, ?_⟩)
    exact trivial
  · exact fun q u u2 w _ h => h
  · exact (Chg.refl _ _).drew
  · refine ⟨?_, ?_, ?_, ?_, ?_, ?_, ?_, ?_, ?_, ?_, ?_, ?_, ?_, ?_, ?_, ?_, ?_, ?_, ?_, ?_, ?_, ?_, ?_, ?_, ?_, ?_, ?_, ?_, trivial⟩
    · show StepRQ _ _ _ _ _ _ _ _ _ -- 52
      unfold StepRQ
      intro q hq u w hj hd K hK
      clear hd
      go_simp
      exact hK.out (.int .i64 0) rfl
    · show StepRQ _ _ _ _ _ _ _ _ _ -- 53
      unfold StepRQ
      intro q hq u w hj hd K hK
      have h52 : u 52 = .int .i64 0 := hd.get 0 (by kernel_rfl)
      clear hd
      simp only [h52] at hK
      go_simp
      go_at_call 10
      refine (num_any _ _).mono ?_
      rintro x w2 ⟨rfl, rfl⟩
      exact hK.out _ rfl
    · show StepRQ _ _ _ _ _ _ _ _ _ -- 54
      unfold StepRQ
      intro q hq u w hj hd K hK
      clear hd
      go_simp
      exact hK.out (.int .i64 0) rfl
    · show StepRQ _ _ _ _ _ _ _ _ _ -- 55
      unfold StepRQ
      intro q hq u w hj hd K hK
      have h53 : u 53 = .int .i64 0 := hd.get 1 (by kernel_rfl)
      have h54 : u 54 = .int .i64 0 := hd.get 2 (by kernel_rfl)
      clear hd
      simp only [h53, h54] at hK
      go_simp
      exact hK.out (.bool false) rfl
    · show StepRQ _ _ _ _ _ _ _ _ _ -- 56
      unfold StepRQ
      intro q hq u w hj hd K hK
      have h55 : u 55 = .bool false := hd.get 3 (by kernel_rfl)
      clear hd
      simp only [h55] at hK
      go_simp
      exact hK.out (.bool false) rfl
    · show StepRQ _ _ _ _ _ _ _ _ _ -- 57
      unfold StepRQ
      intro q hq u w hj hd K hK
      have h56 : u 56 = .bool false := hd.get 4 (by kernel_rfl)
      clear hd
      simp only [h56] at hK
      go_simp
      exact hK.out (.pointer (some ⟨a, 0, none⟩)) rfl
    · show StepRQ _ _ _ _ _ _ _ _ _ -- 58
      unfold StepRQ
      intro q hq u w hj hd K hK
      have h57 : u 57 = .pointer (some ⟨a, 0, none⟩) := hd.get 5 (by kernel_rfl)
      have h56 : u 56 = .bool false := hd.get 4 (by kernel_rfl)
      clear hd
      simp only [h57, h56] at hK
      go_simp
      exact hK.out (.bool false) rfl
    · show StepRQ _ _ _ _ _ _ _ _ _ -- 59
      unfold StepRQ
      intro q hq u w hj hd K hK
      have h56 : u 56 = .bool false := hd.get 4 (by kernel_rfl)
      clear hd
      simp only [h56] at hK
      go_simp
      exact hK.out (.pointer (some ⟨r, 0, none⟩)) rfl
    · show StepRQ _ _ _ _ _ _ _ _ _ -- 60
      unfold StepRQ
      intro q hq u w hj hd K hK
      have h59 : u 59 = .pointer (some ⟨r, 0, none⟩) := hd.get 7 (by kernel_rfl)
      have h56 : u 56 = .bool false := hd.get 4 (by kernel_rfl)
      clear hd
      simp only [h59, h56] at hK
      go_simp
      exact hK.out (.bool false) rfl
    · show StepRQ _ _ _ _ _ _ _ _ _ -- 61
      unfold StepRQ
      intro q hq u w hj hd K hK
      have h58 : u 58 = .bool false := hd.get 6 (by kernel_rfl)
      have h60 : u 60 = .bool false := hd.get 8 (by kernel_rfl)
      have h56 : u 56 = .bool false := hd.get 4 (by kernel_rfl)
      clear hd
      simp only [h58, h60, h56] at hK
      go_simp
      exact hK.out (.bool false) rfl
    · show StepRQ _ _ _ _ _ _ _ _ _ -- 62
      unfold StepRQ
      intro q hq u w hj hd K hK
      have h56 : u 56 = .bool false := hd.get 4 (by kernel_rfl)
      have h61 : u 61 = .bool false := hd.get 9 (by kernel_rfl)
      clear hd
      simp only [h56, h61] at hK
      go_simp
      exact hK.out (.bool false) rfl
    · show StepRQ _ _ _ _ _ _ _ _ _ -- 63
      unfold StepRQ
      intro q hq u w hj hd K hK
      have h62 : u 62 = .bool false := hd.get 10 (by kernel_rfl)
      clear hd
      simp only [h62] at hK
      go_simp
      exact hK.out (.bool false) rfl
    · show StepRQ _ _ _ _ _ _ _ _ _ -- 64
      unfold StepRQ
      intro q hq u w hj hd K hK
      have h63 : u 63 = .bool false := hd.get 11 (by kernel_rfl)
      clear hd
      simp only [h63] at hK
      go_simp
      exact hK.out (.slice (some ⟨lg, 0, none⟩) (nb + 1) lc) rfl
    · show StepRQ _ _ _ _ _ _ _ _ _ -- 65
      unfold StepRQ
      intro q hq u w hj hd K hK
      have h63 : u 63 = .bool false := hd.get 11 (by kernel_rfl)
      clear hd
      simp only [h63] at hK
      go_simp
      exact hK.out (.slice ab nb cb) rfl
    · show StepRQ _ _ _ _ _ _ _ _ _ -- 66
      unfold StepRQ
      intro q hq u w hj hd K hK
      have h65 : u 65 = .slice ab nb cb := hd.get 13 (by kernel_rfl)
      have h63 : u 63 = .bool false := hd.get 11 (by kernel_rfl)
      clear hd
      simp only [h65, h63] at hK
      go_simp
      exact hK.out (.int .i64 (nb : Int)) rfl
    · show StepRQ _ _ _ _ _ _ _ _ _ -- 67
      unfold StepRQ
      intro q hq u w hj hd K hK
      have h64 : u 64 = .slice (some ⟨lg, 0, none⟩) (nb + 1) lc := hd.get 12 (by kernel_rfl)
      have h66 : u 66 = .int .i64 (nb : Int) := hd.get 14 (by kernel_rfl)
      have h63 : u 63 = .bool false := hd.get 11 (by kernel_rfl)
      clear hd
      simp only [h64, h66, h63] at hK
      go_simp
      exact hK.out (.slice (some ⟨lg, 0, none⟩) nb lc) rfl
    · show StepRQ _ _ _ _ _ _ _ _ _ -- 68
      unfold StepRQ
      intro q hq u w hj hd K hK
      have h67 : u 67 = .slice (some ⟨lg, 0, none⟩) nb lc := hd.get 15 (by kernel_rfl)
      have h63 : u 63 = .bool false := hd.get 11 (by kernel_rfl)
      clear hd
      simp only [h67, h63] at hK
      have hcv := Bk.conv8_here (Bk.row8_chg HRL.out hj)
      go_simp
      exact hK.out _ rfl
    · show StepRQ _ _ _ _ _ _ _ _ _ -- 69
      unfold StepRQ
      intro q hq u w hj hd K hK
      have h63 : u 63 = .bool false := hd.get 11 (by kernel_rfl)
      clear hd
      simp only [h63] at hK
      go_simp
      exact hK.out (.slice ab nb cb) rfl
    · show StepRQ _ _ _ _ _ _ _ _ _ -- 70
      unfold StepRQ
      intro q hq u w hj hd K hK
      have h69 : u 69 = .slice ab nb cb := hd.get 17 (by kernel_rfl)
      have h63 : u 63 = .bool false := hd.get 11 (by kernel_rfl)
      clear hd
      simp only [h69, h63] at hK
      have hcv := Bk.conv8_here (Bk.row8_chg HRB.out hj)
      go_simp
      exact hK.out _ rfl
    · show StepRQ _ _ _ _ _ _ _ _ _ -- 71
      unfold StepRQ
      intro q hq u w hj hd K hK
      have h68 : u 68 = .string (strOfNums (nums bs)) := hd.get 16 (by kernel_rfl)
      have h70 : u 70 = .string (strOfNums (nums bs)) := hd.get 18 (by kernel_rfl)
      have h63 : u 63 = .bool false := hd.get 11 (by kernel_rfl)
      clear hd
      simp only [h68, h70, h63] at hK
      go_simp
      exact hK.out (.bool false) rfl
    · show StepRQ _ _ _ _ _ _ _ _ _ -- 72
      unfold StepRQ
      intro q hq u w hj hd K hK
      have h63 : u 63 = .bool false := hd.get 11 (by kernel_rfl)
      have h71 : u 71 = .bool false := hd.get 19 (by kernel_rfl)
      clear hd
      simp only [h63, h71] at hK
      go_simp
      exact hK.out (.bool false) rfl
    · show StepRQ _ _ _ _ _ _ _ _ _ -- 73
      unfold StepRQ
      intro q hq u w hj hd K hK
      have h72 : u 72 = .bool false := hd.get 20 (by kernel_rfl)
      clear hd
      simp only [h72] at hK
      go_simp
      exact hK.out (.bool false) rfl
    · show StepRQ _ _ _ _ _ _ _ _ _ -- 74
      unfold StepRQ
      intro q hq u w hj hd K hK
      have h73 : u 73 = .bool false := hd.get 21 (by kernel_rfl)
      clear hd
      simp only [h73] at hK
      go_simp
      exact hK.out (.slice (some ⟨lg, 0, none⟩) (nb + 1) lc) rfl
    · show StepRQ _ _ _ _ _ _ _ _ _ -- 75
      unfold StepRQ
      intro q hq u w hj hd K hK
      have h73 : u 73 = .bool false := hd.get 21 (by kernel_rfl)
      clear hd
      simp only [h73] at hK
      go_simp
      exact hK.out (.slice ab nb cb) rfl
    · show StepRQ _ _ _ _ _ _ _ _ _ -- 76
      unfold StepRQ
      intro q hq u w hj hd K hK
      have h75 : u 75 = .slice ab nb cb := hd.get 23 (by kernel_rfl)
      have h73 : u 73 = .bool false := hd.get 21 (by kernel_rfl)
      clear hd
      simp only [h75, h73] at hK
      go_simp
      exact hK.out (.int .i64 (nb : Int)) rfl
    · show StepRQ _ _ _ _ _ _ _ _ _ -- 77
      unfold StepRQ
      intro q hq u w hj hd K hK
      have h74 : u 74 = .slice (some ⟨lg, 0, none⟩) (nb + 1) lc := hd.get 22 (by kernel_rfl)
      have h76 : u 76 = .int .i64 (nb : Int) := hd.get 24 (by kernel_rfl)
      have h73 : u 73 = .bool false := hd.get 21 (by kernel_rfl)
      clear hd
      simp only [h74, h76, h73] at hK
      have hlt9 : (nb : Int) < (nb : Int) + 1 := by omega
      go_simp
      exact hK.out _ rfl
    · show StepRQ _ _ _ _ _ _ _ _ _ -- 78
      unfold StepRQ
      intro q hq u w hj hd K hK
      have h77 : u 77 = .pointer (some ⟨lg, nb, none⟩) := hd.get 25 (by kernel_rfl)
      have h73 : u 73 = .bool false := hd.get 21 (by kernel_rfl)
      clear hd
      simp only [h77, h73] at hK
      have hcell := cell_chg HCL.out hj
      go_simp
      exact hK.out _ rfl
    · show StepRQ _ _ _ _ _ _ _ _ _ -- 79
      unfold StepRQ
      intro q hq u w hj hd K hK
      have h78 : u 78 = .int .u8 153 := hd.get 26 (by kernel_rfl)
      have h73 : u 73 = .bool false := hd.get 21 (by kernel_rfl)
      clear hd
      simp only [h78, h73] at hK
      go_simp
      exact hK.out (.bool false) rfl
  · intro u w hj hA K hK
    have e73 : u 73 = .bool false := hA.at 73 (by kernel_rfl)
    have e79 : u 79 = .bool false := hA.at 79 (by kernel_rfl)
    clear hA
    have HCW : Hid (Chg (fun _ => False) W w) := hj
    go_simp
    refine hK.out _ _ ?_
    have HCW3 : Hid (Chg (fun _ => False) w3 w) := chg_then HC35.out HCW.out
    have HOL6 : Hid (w.ownsRow w0.heap.size 5 1 (.slice (some ⟨lg, 0, none⟩) (nb + 1) lc) (nb + 1) (ins .u8 (nums bs ++ [153]))) := by
      have h9 := ownsRow_keep HOL.out HCW3.out (fun _ _ f => f)
      show World.ownsRow _ _ _ _ _ _ _
      simpa [ins] using h9
    have HD6 : Hid (Dec w w3.heap.size a v bs ⟨5, 4294967295, Rc.code5 bs⟩) := S.keep HD4.out (chg_then HC45.out HCW.out) (fun f => f) (fun _ _ f => f)
    have HR6 : Hid (Rdc w w4.heap.size r y bs ⟨5, 4294967295, Rc.code5 bs⟩) := HR5.out.new HCW.out
    have HC6 : Hid (Chg (fun _ => False) w0 w) := chg_then HC5.out HCW.out
    have z34 := HC34.out.size
    have z46 := (chg_then HC45.out HCW.out).size
    clear HD4 HR5 HRL HRB HCL HCW HOL HRL3 HRB4 hK
    generalize w = w6 at *
    go_wp2_with fail
    go_loopw [86] (fun iv wr => ∃ (k : Nat) (ys : List Int), k ≤ nb + 1 ∧ iv = .int .i64 (k : Int) ∧ Hid (ys.length = nb + 1) ∧ Hid (wr.ownsRow w0.heap.size 5 1 (.slice (some ⟨lg, 0, none⟩) (nb + 1) lc) (nb + 1) (ins .u8 ys)) ∧ Hid (Chg (fun z => z = lg) w6 wr)) (fun iv _ => nb + 1 - (intOf iv).toNat)
    case atStart => exact ⟨0, nums bs ++ [153], Nat.zero_le _, rfl, by show _ = _; rw [List.length_append, nums_len, HBL.out]; rfl, HOL6.out, Chg.refl _ _⟩
    case round =>
      clear HOL6
      obtain ⟨k, ys, hk, rfl, HYL, HOW, HCW6⟩ := hrel
      by_cases hlt : k < nb + 1
      · obtain ⟨g9, cap9, e9, hc9, _, _, _, hf9, hcl9⟩ := own_some HOW.out (by omega)
        cases e9
        have hcell : wr.cell? ⟨lg, k, none⟩ = some (.int .u8 (ys[k]'(by rw [HYL.out]; exact hlt))) := hcl9 k _ (ins_at _ _ _ _)
        have hfr := hf9 k
        have hki : (k : Int) < (nb : Int) + 1 := by omega
        have HOW2 : Hid ((wr.setCell ⟨lg, k, none⟩ (.int .u8 90)).ownsRow w0.heap.size 5 1 (.slice (some ⟨lg, 0, none⟩) (nb + 1) lc) (nb + 1) (ins .u8 (ys.set k 90))) := by
          have h9 := own_set HOW.out k (.int .u8 90) hlt
          rw [ins_set] at h9
          exact h9
        have HCW7 : Hid (Chg (fun z => z = lg) w6 (wr.setCell ⟨lg, k, none⟩ (.int .u8 90))) := HCW6.out.setCell (p := ⟨lg, k, none⟩) (.inl rfl) _
        clear hcl9 hf9
        go_wp2_with fail
        go_roundw
        case rel => exact ⟨k + 1, ys.set k 90, by omega, by go_num, by show _ = _; rw [List.length_set]; exact HYL.out, HOW2.out, HCW7.out⟩
        case measure => simp [intOf]; omega
      · obtain rfl : nb + 1 = k := by omega
        have hd9 : decide (((nb + 1 : Nat) : Int) < ((nb + 1 : Nat) : Int)) = false := by simp
        have hd8 : decide ((nb : Int) + 1 < (nb : Int) + 1) = false := by simp
        have HD7 : Hid (Dec wr w3.heap.size a v bs ⟨5, 4294967295, Rc.code5 bs⟩) := S.keep HD6.out HCW6.out (fun f => by have := S.base HD6.out; have := HLG.out.2; omega) (fun g e f => by have := ((S.own HD6.out).lt g e).1; have := HLG.out.2; omega)
        have HR7 : Hid (Rdc wr w4.heap.size r y bs ⟨5, 4294967295, Rc.code5 bs⟩) := HR6.out.keep HCW6.out (fun f => by have := HR6.out.hr; have := HLG.out.2; omega) (fun g e f => by have := (HR6.out.own.lt g e).1; have := HLG.out.2; omega)
        have HC7 : Hid (Chg (fun _ => False) w0 wr) := HC6.out.trans HCW6.out (fun z f => .inr (by rw [f]; exact HLG.out.1))
        have z67 := HCW6.out.size
        clear HOW HYL HCW6 HD6 HR6
        go_wp2_with fail
        refine (new_in N _ (by omega)).mono ?_
        rintro z w8 ⟨s, us, rfl, hs, hS8, c8⟩
        have HS8 : Hid (St w8 wr.heap.size s us (List.replicate N 1024)) := hS8
        have HC78 : Hid (Chg (fun _ => False) wr w8) := c8
        clear hs hS8 c8
        go_wp2_with fail
        refine (rnew_in N _ (by omega)).mono ?_
        rintro z w9 ⟨t, o, rfl, ht, hT9, c9⟩
        have HBOTH : Hid (Both Dec w0 w9 w3.heap.size wr.heap.size w4.heap.size w8.heap.size a s r t (N : Int) v us y o bs ⟨5, 4294967295, Rc.code5 bs⟩ (List.replicate N 1024)) := ⟨S.keep HD7.out (chg_then HC78.out c9) (fun f => f) (fun _ _ f => f), HS8.out.new c9, HR7.out.new (chg_then HC78.out c9), hT9, HOK.out, In31.half N, ⟨by have := HC78.out.size; have := c9.size; omega, by have := HC78.out.size; have := c9.size; omega⟩, ⟨HC3.out.size, HC7.out.size, HC4.out.size, by have := HC78.out.size; have := HC7.out.size; omega⟩, chg_then HC7.out (chg_then HC78.out c9)⟩
        clear ht hT9 c9 HD7 HR7 HS8
        generalize wr.heap.size = B2 at *
        generalize w4.heap.size = B3 at *
        generalize w8.heap.size = B4 at *
        obtain ⟨D0, hD0⟩ : ∃ D0 : Rc.D, ⟨5, 4294967295, Rc.code5 bs⟩ = D0 := ⟨_, rfl⟩
        rw [hD0] at HBOTH
        clear hD0
        go_wp2_with fail
        refine (num_any _ _).mono ?_
        rintro z w9 ⟨rfl, rfl⟩
        go_wp2_with fail
        go_loopw [112] (fun iv wr => ∃ (k : Nat) (d : Rc.D) (xs : List Int), k ≤ L ∧ iv = .int .i64 (k : Int) ∧ Hid (xs.length = N) ∧ Hid (Both Dec w0 wr w3.heap.size B2 B3 B4 a s r t (N : Int) v us y o bs d xs)) (fun iv _ => L - (intOf iv).toNat)
        case atStart => exact ⟨0, D0, List.replicate N 1024, Nat.zero_le _, rfl, by simp [Hid], HBOTH.out⟩
        case round =>
          clear HBOTH
          obtain ⟨k, d, xs, hk, rfl, HXL, HB⟩ := hrel
          by_cases hlt : k < L
          · obtain ⟨q, hq⟩ : ∃ q, l[k]? = some q := ⟨_, List.getElem?_eq_getElem (by rw [HLL.out]; exact hlt)⟩
            obtain ⟨b0, off, ea, h0, h1, h2, h3, hX⟩ := (HA0.out.new HB.out.chg) k q hq
            obtain ⟨dd, I, N_, X⟩ := q
            subst ea
            have cB := chg_one wr (.cells #[.bool dd, .int .i64 I, .int .i64 N_, .int .u32 (X : Int)] 40)
            have HB1 : Hid (Both Dec w0 (wr.alloc (.cells #[.bool dd, .int .i64 I, .int .i64 N_, .int .u32 (X : Int)] 40)) w3.heap.size B2 B3 B4 a s r t (N : Int) v us y o bs d xs) := HB.out.new S cB
            have HBO : Hid ((wr.alloc (.cells #[.bool dd, .int .i64 I, .int .i64 N_, .int .u32 (X : Int)] 40)).heap[wr.heap.size]? = some (.cells #[.bool dd, .int .i64 I, .int .i64 N_, .int .u32 (X : Int)] 40 (0, 0))) := heap_alloc_last wr _
            clear cB hX hq HB
            go_upto_region 22 with fail
            clear h0 h1 h2 h3
            generalize wr.alloc (.cells #[.bool dd, .int .i64 I, .int .i64 N_, .int .u32 (X : Int)] 40) = w1 at *
            generalize wr.heap.size = O at *
            obtain ⟨o0, o1, o2, o3, _⟩ := rcells4 HBO.out
            cases dd with
            | true =>
              go_wp2_with fail
              refine (S.dir _ a v bs d N_ _ HB1.out.dec HB1.out.ok hdig (by rw [HBL.out]; omega) HB1.out.big.1).mono ?_
              rintro z w2 (⟨e, he, hep, rfl, hD2, c2⟩ | ⟨b, d', he, rfl, hD2, c2⟩)
              · have HEQ : Hid (decA bs ⟨true, 0, N_, 0⟩ d [] = .error e) := he
                have hS2 : St w2 B2 s us xs := HB1.out.st.keep c2 (fun f => by
                  obtain ⟨cs, hb⟩ := S.blk HB1.out.dec
                  have h9 := HB1.out.st.blk
                  rw [f] at h9
                  exact ty_ne hb h9 (by decide)) (fun g eg f => by
                  obtain ⟨cs, hb⟩ := S.blk HB1.out.dec
                  obtain ⟨cur, hcur⟩ := owns_blk HB1.out.st.own eg
                  rw [f] at hcur
                  exact ty_ne hb hcur (by decide))
                obtain ⟨hR2, hT2, hC2⟩ := HB1.out.prog S (c2.mono (T := Fd a us) (fun z f => .inl (.inl f)))
                have HR2 : Hid (Rdc w2 B3 r y bs d) := hR2
                have HT2 : Hid (Rt w2 B4 t (N : Int) o xs) := hT2
                have HD2 : Hid (Dec w2 w3.heap.size a v bs d) := hD2
                have HS2 : Hid (St w2 B2 s us xs) := hS2
                have HC2 : Hid (Chg (fun _ => False) w0 w2) := hC2
                have HBO2 : Hid (w2.heap[O]? = some (.cells #[.bool true, .int .i64 I, .int .i64 N_, .int .u32 (X : Int)] 40 (0, 0))) := blk_keep HBO.out (c2.mono (T := Fd a us) (fun z f => .inl (.inl f))) (fun f => by
                  rcases f with f | f
                  · obtain ⟨cs, hb⟩ := S.blk HB1.out.dec
                    rw [← f] at hb
                    exact ty_ne HBO.out hb (by decide)
                  · obtain ⟨cur, hcur⟩ := owns_blk HB1.out.st.own f
                    exact ty_ne HBO.out hcur (by decide))
                have c2s := c2.size
                obtain ⟨p0, p1, p2, p3, _⟩ := rcells4 HBO2.out
                clear he hD2 hS2 hR2 hT2 hC2 c2 o0 o1 o2 o3 hep
                go_wp2_with fail
                refine (rddir_A _ r y N_ bs d _ HR2.out HB1.out.ok (by rw [HBL.out]; omega) (Nat.le_trans HB1.out.big.2 c2s)).mono ?_
                rintro z w3b (⟨e2, he2, rfl, hR3, c3⟩ | ⟨b2, d2, he2, rfl, hR3, c3⟩)
                rotate_left
                · rw [HEQ.out] at he2
                  cases he2
                rw [HEQ.out] at he2
                simp only [Except.error.injEq] at he2
                subst he2
                have hT3 : Rt w3b B4 t (N : Int) o xs := HT2.out.keep c3 (fun f => by
                  have h9 := HT2.out.blk
                  rw [f] at h9
                  exact ty_ne HR2.out.blk h9 (by decide)) (fun g eg f => by
                  obtain ⟨cur, hcur⟩ := owns_blk HT2.out.own eg
                  rw [f] at hcur
                  exact ty_ne HR2.out.blk hcur (by decide))
                obtain ⟨hD3, hS3⟩ := ref_keep S HD2.out HS2.out HR2.out HT2.out (c3.mono (T := Fr r o) (fun z f => .inl (.inl f)))
                have HOKD : Hid (OkD bs d) := HB1.out.ok
                have HINN : Hid (In31 xs) := HB1.out.inn
                have HXL2 : Hid (xs.length = N) := HXL.out
                have HB3 : Hid (Both Dec w0 w3b w3.heap.size B2 B3 B4 a s r t (N : Int) v us y o bs d xs) := ⟨hD3, hS3, hR3, hT3, HOKD.out, HINN.out, ⟨Nat.le_trans (Nat.le_trans HB1.out.big.1 c2s) c3.size, Nat.le_trans (Nat.le_trans HB1.out.big.2 c2s) c3.size⟩, HB1.out.low, HC2.out.trans (c3.mono (T := Fr r o) (fun z f => .inl (.inl f))) (fun z f => .inr (by
                  rcases f with f | f
                  · rw [f]; exact Nat.le_trans HB1.out.low.2.2.1 HR2.out.hr
                  · exact Nat.le_trans HB1.out.low.2.2.2 (HT2.out.own.lt z f).1))⟩
                clear hD3 hS3 hR3 hT3 c3 c2s p0 p1 p2 p3
                generalize hei : (e : Int) = ei
                clear hei
                go_wp2_with fail
                refine (num_any _ _).mono ?_
                rintro z w9 ⟨rfl, rfl⟩
                go_wp2_with fail
                refine (S.used _ a v bs d _ HB3.out.dec).mono ?_
                rintro z w4 ⟨rfl, c4⟩
                have HB4 : Hid (Both Dec w0 w4 w3.heap.size B2 B3 B4 a s r t (N : Int) v us y o bs d xs) := HB3.out.new S c4
                clear c4
                go_wp2_with fail
                refine (rdused_any _ r y bs d _ HB4.out.rdc).mono ?_
                rintro z w9 ⟨rfl, rfl⟩
                go_wp2_with fail
                obtain ⟨dn, hdn⟩ : ∃ dn, dn = decide ((d).n = bs.length ∧ (d).C = 0) := ⟨_, rfl⟩
                have HDN : Hid (dn = decide ((d).n = bs.length ∧ (d).C = 0)) := hdn
                clear hdn
                have hd1 := S.done _ a v bs d _ HB4.out.dec
                rw [← HDN.out] at hd1
                refine hd1.mono ?_
                rintro z w5 ⟨rfl, c5⟩
                have HB5 : Hid (Both Dec w0 w5 w3.heap.size B2 B3 B4 a s r t (N : Int) v us y o bs d xs) := HB4.out.new S c5
                clear c5
                go_wp2_with fail
                have hd2 := rddone_any _ r y bs d _ HB5.out.rdc
                rw [← HDN.out] at hd2
                refine hd2.mono ?_
                rintro z w6 ⟨rfl, c6⟩
                have HB6 : Hid (Both Dec w0 w6 w3.heap.size B2 B3 B4 a s r t (N : Int) v us y o bs d xs) := HB5.out.new S c6
                clear c6
                clear hd1 hd2 HDN
                go_wp2_with fail
                go_roundw
                case rel => exact ⟨k + 1, d, xs, by omega, by go_num, HXL2.out, HB6.out⟩
                case measure => simp [intOf]; omega
              · have HEQ : Hid (decA bs ⟨true, 0, N_, 0⟩ d [] = .ok (b, d', [])) := he
                have hS2 : St w2 B2 s us xs := HB1.out.st.keep c2 (fun f => by
                  obtain ⟨cs, hb⟩ := S.blk HB1.out.dec
                  have h9 := HB1.out.st.blk
                  rw [f] at h9
                  exact ty_ne hb h9 (by decide)) (fun g eg f => by
                  obtain ⟨cs, hb⟩ := S.blk HB1.out.dec
                  obtain ⟨cur, hcur⟩ := owns_blk HB1.out.st.own eg
                  rw [f] at hcur
                  exact ty_ne hb hcur (by decide))
                obtain ⟨hR2, hT2, hC2⟩ := HB1.out.prog S (c2.mono (T := Fd a us) (fun z f => .inl (.inl f)))
                have HR2 : Hid (Rdc w2 B3 r y bs d) := hR2
                have HT2 : Hid (Rt w2 B4 t (N : Int) o xs) := hT2
                have HD2 : Hid (Dec w2 w3.heap.size a v bs d') := hD2
                have HS2 : Hid (St w2 B2 s us xs) := hS2
                have HC2 : Hid (Chg (fun _ => False) w0 w2) := hC2
                have HBO2 : Hid (w2.heap[O]? = some (.cells #[.bool true, .int .i64 I, .int .i64 N_, .int .u32 (X : Int)] 40 (0, 0))) := blk_keep HBO.out (c2.mono (T := Fd a us) (fun z f => .inl (.inl f))) (fun f => by
                  rcases f with f | f
                  · obtain ⟨cs, hb⟩ := S.blk HB1.out.dec
                    rw [← f] at hb
                    exact ty_ne HBO.out hb (by decide)
                  · obtain ⟨cur, hcur⟩ := owns_blk HB1.out.st.own f
                    exact ty_ne HBO.out hcur (by decide))
                have c2s := c2.size
                obtain ⟨p0, p1, p2, p3, _⟩ := rcells4 HBO2.out
                clear he hD2 hS2 hR2 hT2 hC2 c2 o0 o1 o2 o3
                go_wp2_with fail
                refine (rddir_A _ r y N_ bs d _ HR2.out HB1.out.ok (by rw [HBL.out]; omega) (Nat.le_trans HB1.out.big.2 c2s)).mono ?_
                rintro z w3b (⟨e2, he2, rfl, hR3, c3⟩ | ⟨b2, d2, he2, rfl, hR3, c3⟩)
                · rw [HEQ.out] at he2
                  cases he2
                rw [HEQ.out] at he2
                simp only [Except.ok.injEq, Prod.mk.injEq] at he2
                obtain ⟨rfl, rfl, _⟩ := he2
                have hT3 : Rt w3b B4 t (N : Int) o xs := HT2.out.keep c3 (fun f => by
                  have h9 := HT2.out.blk
                  rw [f] at h9
                  exact ty_ne HR2.out.blk h9 (by decide)) (fun g eg f => by
                  obtain ⟨cur, hcur⟩ := owns_blk HT2.out.own eg
                  rw [f] at hcur
                  exact ty_ne HR2.out.blk hcur (by decide))
                obtain ⟨hD3, hS3⟩ := ref_keep S HD2.out HS2.out HR2.out HT2.out (c3.mono (T := Fr r o) (fun z f => .inl (.inl f)))
                have hdA := decA_ok hdig HB1.out.ok (fun p hp => (List.not_mem_nil hp).elim : In31 ([] : List Int)) HEQ.out
                have HOKD : Hid (OkD bs d') := hdA.2.2.1
                have HINN : Hid (In31 xs) := HB1.out.inn
                have HXL2 : Hid (xs.length = N) := HXL.out
                clear hdA
                have HB3 : Hid (Both Dec w0 w3b w3.heap.size B2 B3 B4 a s r t (N : Int) v us y o bs d' xs) := ⟨hD3, hS3, hR3, hT3, HOKD.out, HINN.out, ⟨Nat.le_trans (Nat.le_trans HB1.out.big.1 c2s) c3.size, Nat.le_trans (Nat.le_trans HB1.out.big.2 c2s) c3.size⟩, HB1.out.low, HC2.out.trans (c3.mono (T := Fr r o) (fun z f => .inl (.inl f))) (fun z f => .inr (by
                  rcases f with f | f
                  · rw [f]; exact Nat.le_trans HB1.out.low.2.2.1 HR2.out.hr
                  · exact Nat.le_trans HB1.out.low.2.2.2 (HT2.out.own.lt z f).1))⟩
                clear hD3 hS3 hR3 hT3 c3 c2s p0 p1 p2 p3
                generalize hei : (b : Int) = ei
                clear hei
                go_wp2_with fail
                refine (num_any _ _).mono ?_
                rintro z w9 ⟨rfl, rfl⟩
                go_wp2_with fail
                refine (S.used _ a v bs d' _ HB3.out.dec).mono ?_
                rintro z w4 ⟨rfl, c4⟩
                have HB4 : Hid (Both Dec w0 w4 w3.heap.size B2 B3 B4 a s r t (N : Int) v us y o bs d' xs) := HB3.out.new S c4
                clear c4
                go_wp2_with fail
                refine (rdused_any _ r y bs d' _ HB4.out.rdc).mono ?_
                rintro z w9 ⟨rfl, rfl⟩
                go_wp2_with fail
                obtain ⟨dn, hdn⟩ : ∃ dn, dn = decide ((d').n = bs.length ∧ (d').C = 0) := ⟨_, rfl⟩
                have HDN : Hid (dn = decide ((d').n = bs.length ∧ (d').C = 0)) := hdn
                clear hdn
                have hd1 := S.done _ a v bs d' _ HB4.out.dec
                rw [← HDN.out] at hd1
                refine hd1.mono ?_
                rintro z w5 ⟨rfl, c5⟩
                have HB5 : Hid (Both Dec w0 w5 w3.heap.size B2 B3 B4 a s r t (N : Int) v us y o bs d' xs) := HB4.out.new S c5
                clear c5
                go_wp2_with fail
                have hd2 := rddone_any _ r y bs d' _ HB5.out.rdc
                rw [← HDN.out] at hd2
                refine hd2.mono ?_
                rintro z w6 ⟨rfl, c6⟩
                have HB6 : Hid (Both Dec w0 w6 w3.heap.size B2 B3 B4 a s r t (N : Int) v us y o bs d' xs) := HB5.out.new S c6
                clear c6
                clear hd1 hd2 HDN
                go_wp2_with fail
                go_roundw
                case rel => exact ⟨k + 1, d', xs, by omega, by go_num, HXL2.out, HB6.out⟩
                case measure => simp [intOf]; omega
            | false =>
              go_wp2_with fail
              refine (S.bit _ _ a s v us bs d xs I _ HB1.out.dec HB1.out.ok hdig (by rw [HBL.out]; omega) HB1.out.st HB1.out.inn HB1.out.big.1).mono ?_
              rintro z w2 (⟨e, he, hep, rfl, hD2, hS2, c2⟩ | ⟨b, d', xs', he, rfl, hD2, hS2, c2⟩)
              · have HEQ : Hid (decA bs ⟨false, I, 0, 0⟩ d xs = .error e) := he
                obtain ⟨hR2, hT2, hC2⟩ := HB1.out.prog S c2
                have HR2 : Hid (Rdc w2 B3 r y bs d) := hR2
                have HT2 : Hid (Rt w2 B4 t (N : Int) o xs) := hT2
                have HD2 : Hid (Dec w2 w3.heap.size a v bs d) := hD2
                have HS2 : Hid (St w2 B2 s us xs) := hS2
                have HC2 : Hid (Chg (fun _ => False) w0 w2) := hC2
                have HBO2 : Hid (w2.heap[O]? = some (.cells #[.bool false, .int .i64 I, .int .i64 N_, .int .u32 (X : Int)] 40 (0, 0))) := blk_keep HBO.out c2 (fun f => by
                  rcases f with f | f
                  · obtain ⟨cs, hb⟩ := S.blk HB1.out.dec
                    rw [← f] at hb
                    exact ty_ne HBO.out hb (by decide)
                  · obtain ⟨cur, hcur⟩ := owns_blk HB1.out.st.own f
                    exact ty_ne HBO.out hcur (by decide))
                have c2s := c2.size
                obtain ⟨p0, p1, p2, p3, _⟩ := rcells4 HBO2.out
                clear he hD2 hS2 hR2 hT2 hC2 c2 o0 o1 o2 o3 hep
                go_wp2_with fail
                refine (rdbit_A _ _ r t (N : Int) y o xs I bs d _ HR2.out HB1.out.ok HT2.out HB1.out.inn (by rw [HBL.out]; omega) (Nat.le_trans HB1.out.big.2 c2s)).mono ?_
                rintro z w3b (⟨e2, he2, rfl, hR3, hT3, c3⟩ | ⟨b2, d2, xs2, he2, rfl, hR3, hT3, c3⟩)
                rotate_left
                · rw [HEQ.out] at he2
                  cases he2
                rw [HEQ.out] at he2
                simp only [Except.error.injEq] at he2
                subst he2
                obtain ⟨hD3, hS3⟩ := ref_keep S HD2.out HS2.out HR2.out HT2.out c3
                have HOKD : Hid (OkD bs d) := HB1.out.ok
                have HINN : Hid (In31 xs) := HB1.out.inn
                have HXL2 : Hid (xs.length = N) := HXL.out
                have HB3 : Hid (Both Dec w0 w3b w3.heap.size B2 B3 B4 a s r t (N : Int) v us y o bs d xs) := ⟨hD3, hS3, hR3, hT3, HOKD.out, HINN.out, ⟨Nat.le_trans (Nat.le_trans HB1.out.big.1 c2s) c3.size, Nat.le_trans (Nat.le_trans HB1.out.big.2 c2s) c3.size⟩, HB1.out.low, HC2.out.trans c3 (fun z f => .inr (by
                  rcases f with f | f
                  · rw [f]; exact Nat.le_trans HB1.out.low.2.2.1 HR2.out.hr
                  · exact Nat.le_trans HB1.out.low.2.2.2 (HT2.out.own.lt z f).1))⟩
                clear hD3 hS3 hR3 hT3 c3 c2s p0 p1 p2 p3
                generalize hei : (e : Int) = ei
                clear hei
                go_wp2_with fail
                refine (num_any _ _).mono ?_
                rintro z w9 ⟨rfl, rfl⟩
                go_wp2_with fail
                refine (S.used _ a v bs d _ HB3.out.dec).mono ?_
                rintro z w4 ⟨rfl, c4⟩
                have HB4 : Hid (Both Dec w0 w4 w3.heap.size B2 B3 B4 a s r t (N : Int) v us y o bs d xs) := HB3.out.new S c4
                clear c4
                go_wp2_with fail
                refine (rdused_any _ r y bs d _ HB4.out.rdc).mono ?_
                rintro z w9 ⟨rfl, rfl⟩
                go_wp2_with fail
                obtain ⟨dn, hdn⟩ : ∃ dn, dn = decide ((d).n = bs.length ∧ (d).C = 0) := ⟨_, rfl⟩
                have HDN : Hid (dn = decide ((d).n = bs.length ∧ (d).C = 0)) := hdn
                clear hdn
                have hd1 := S.done _ a v bs d _ HB4.out.dec
                rw [← HDN.out] at hd1
                refine hd1.mono ?_
                rintro z w5 ⟨rfl, c5⟩
                have HB5 : Hid (Both Dec w0 w5 w3.heap.size B2 B3 B4 a s r t (N : Int) v us y o bs d xs) := HB4.out.new S c5
                clear c5
                go_wp2_with fail
                have hd2 := rddone_any _ r y bs d _ HB5.out.rdc
                rw [← HDN.out] at hd2
                refine hd2.mono ?_
                rintro z w6 ⟨rfl, c6⟩
                have HB6 : Hid (Both Dec w0 w6 w3.heap.size B2 B3 B4 a s r t (N : Int) v us y o bs d xs) := HB5.out.new S c6
                clear c6
                clear hd1 hd2 HDN
                go_wp2_with fail
                go_roundw
                case rel => exact ⟨k + 1, d, xs, by omega, by go_num, HXL2.out, HB6.out⟩
                case measure => simp [intOf]; omega
              · have HEQ : Hid (decA bs ⟨false, I, 0, 0⟩ d xs = .ok (b, d', xs')) := he
                obtain ⟨hR2, hT2, hC2⟩ := HB1.out.prog S c2
                have HR2 : Hid (Rdc w2 B3 r y bs d) := hR2
                have HT2 : Hid (Rt w2 B4 t (N : Int) o xs) := hT2
                have HD2 : Hid (Dec w2 w3.heap.size a v bs d') := hD2
                have HS2 : Hid (St w2 B2 s us xs') := hS2
                have HC2 : Hid (Chg (fun _ => False) w0 w2) := hC2
                have HBO2 : Hid (w2.heap[O]? = some (.cells #[.bool false, .int .i64 I, .int .i64 N_, .int .u32 (X : Int)] 40 (0, 0))) := blk_keep HBO.out c2 (fun f => by
                  rcases f with f | f
                  · obtain ⟨cs, hb⟩ := S.blk HB1.out.dec
                    rw [← f] at hb
                    exact ty_ne HBO.out hb (by decide)
                  · obtain ⟨cur, hcur⟩ := owns_blk HB1.out.st.own f
                    exact ty_ne HBO.out hcur (by decide))
                have c2s := c2.size
                obtain ⟨p0, p1, p2, p3, _⟩ := rcells4 HBO2.out
                clear he hD2 hS2 hR2 hT2 hC2 c2 o0 o1 o2 o3
                go_wp2_with fail
                refine (rdbit_A _ _ r t (N : Int) y o xs I bs d _ HR2.out HB1.out.ok HT2.out HB1.out.inn (by rw [HBL.out]; omega) (Nat.le_trans HB1.out.big.2 c2s)).mono ?_
                rintro z w3b (⟨e2, he2, rfl, hR3, hT3, c3⟩ | ⟨b2, d2, xs2, he2, rfl, hR3, hT3, c3⟩)
                · rw [HEQ.out] at he2
                  cases he2
                rw [HEQ.out] at he2
                simp only [Except.ok.injEq, Prod.mk.injEq] at he2
                obtain ⟨rfl, rfl, rfl⟩ := he2
                obtain ⟨hD3, hS3⟩ := ref_keep S HD2.out HS2.out HR2.out HT2.out c3
                have hdA := decA_ok hdig HB1.out.ok HB1.out.inn HEQ.out
                have HOKD : Hid (OkD bs d') := hdA.2.2.1
                have HINN : Hid (In31 xs') := hdA.2.2.2.1
                have HXL2 : Hid (xs'.length = N) := by show _ = _; rw [hdA.2.2.2.2]; exact HXL.out
                clear hdA
                have HB3 : Hid (Both Dec w0 w3b w3.heap.size B2 B3 B4 a s r t (N : Int) v us y o bs d' xs') := ⟨hD3, hS3, hR3, hT3, HOKD.out, HINN.out, ⟨Nat.le_trans (Nat.le_trans HB1.out.big.1 c2s) c3.size, Nat.le_trans (Nat.le_trans HB1.out.big.2 c2s) c3.size⟩, HB1.out.low, HC2.out.trans c3 (fun z f => .inr (by
                  rcases f with f | f
                  · rw [f]; exact Nat.le_trans HB1.out.low.2.2.1 HR2.out.hr
                  · exact Nat.le_trans HB1.out.low.2.2.2 (HT2.out.own.lt z f).1))⟩
                clear hD3 hS3 hR3 hT3 c3 c2s p0 p1 p2 p3
                generalize hei : (b : Int) = ei
                clear hei
                go_wp2_with fail
                refine (num_any _ _).mono ?_
                rintro z w9 ⟨rfl, rfl⟩
                go_wp2_with fail
                refine (S.used _ a v bs d' _ HB3.out.dec).mono ?_
                rintro z w4 ⟨rfl, c4⟩
                have HB4 : Hid (Both Dec w0 w4 w3.heap.size B2 B3 B4 a s r t (N : Int) v us y o bs d' xs') := HB3.out.new S c4
                clear c4
                go_wp2_with fail
                refine (rdused_any _ r y bs d' _ HB4.out.rdc).mono ?_
                rintro z w9 ⟨rfl, rfl⟩
                go_wp2_with fail
                obtain ⟨dn, hdn⟩ : ∃ dn, dn = decide ((d').n = bs.length ∧ (d').C = 0) := ⟨_, rfl⟩
                have HDN : Hid (dn = decide ((d').n = bs.length ∧ (d').C = 0)) := hdn
                clear hdn
                have hd1 := S.done _ a v bs d' _ HB4.out.dec
                rw [← HDN.out] at hd1
                refine hd1.mono ?_
                rintro z w5 ⟨rfl, c5⟩
                have HB5 : Hid (Both Dec w0 w5 w3.heap.size B2 B3 B4 a s r t (N : Int) v us y o bs d' xs') := HB4.out.new S c5
                clear c5
                go_wp2_with fail
                have hd2 := rddone_any _ r y bs d' _ HB5.out.rdc
                rw [← HDN.out] at hd2
                refine hd2.mono ?_
                rintro z w6 ⟨rfl, c6⟩
                have HB6 : Hid (Both Dec w0 w6 w3.heap.size B2 B3 B4 a s r t (N : Int) v us y o bs d' xs') := HB5.out.new S c6
                clear c6
                clear hd1 hd2 HDN
                go_wp2_with fail
                go_roundw
                case rel => exact ⟨k + 1, d', xs', by omega, by go_num, HXL2.out, HB6.out⟩
                case measure => simp [intOf]; omega
          · obtain rfl : L = k := by omega
            have hdL : decide ((L : Int) < (L : Int)) = false := by simp
            have hxl := HXL.out
            go_wp2_with fail
            have hal := alike_any _ _ s t (N : Int) us o xs _ HB.out.st HB.out.rt HB.out.inn.inn (by rw [hxl]; omega)
            rw [hxl] at hal
            refine hal.mono ?_
            rintro z w9 ⟨rfl, rfl⟩
            go_wp2_with fail
            refine (known_any S _).mono ?_
            rintro z w7 ⟨rfl, c7⟩
            have HC7 : Hid (Chg (fun _ => False) w0 w7) := chg_then HB.out.chg c7
            clear c7 hal hxl
            go_wp2
            go_ret
            exact ⟨rfl, HC7.out⟩
end Go.Proofs.Ytejopgopcocapaa
