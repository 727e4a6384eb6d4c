/- The walk of TreeReads above what is asked of the program's trees and decoder; of no statement by itself. -/
import Derived.Test.YtibgjpifmpljkaaRx
import Derived.Test.YtibgjpifmpljkaaTcs
namespace Go.Proofs.Ytibgjpifmpljkaa
open Go.RowKit
set_option linter.unusedVariables false

structure Trd (Dec : World → Nat → Nat → Value → List Nat → Rc.D → Prop) (w0 wr : World) (P : Nat) (av bv : Value) (its : List It) (a r : Nat) (v y : Value) (bs : List Nat) (d : Rc.D) (Y : Nat) : Prop where
  red : Red Dec w0 wr P av bv its a r v y bs d
  len : its.length = Y

set_option maxHeartbeats 8000000 in
set_option maxRecDepth 100000 in
theorem treereads_any (T : TreePut) {Dec : World → Nat → Nat → Value → List Nat → Rc.D → Prop} (S : DecSpec Dec) (G : TreeGet Dec) (al : Option Addr) (Z cl : Nat) (l : List Int) (ab : Option Addr) (nb cb : Nat) (bs : List Nat) (so : Option Addr) (M cs : Nat) (ops : List Stp) (w0 : World) (hI : IntsL w0 al l) (hZ : l.length = Z) (hZ2 : Z ≤ 17592186043904) (hb : Row8 w0 ab nb cb (nums bs)) (hdig : Rc.Dig bs) (hnb : nb ≤ 140737488355328) (hS : StepsL w0 so ops) (hM : ops.length = M) (hM2 : M ≤ 9223372036854775807) : Calls Try.prog 7 #[.slice al Z cl, .slice ab nb cb, .slice so M cs] w0 fun z w' => z = .returned (.bool true) ∧ Chg (fun _ => False) w0 w' := by
  obtain ⟨iu, hiu, hu0, hu1, hu2⟩ := info_parts infoU8
  have hone := ins_one .u8 (nums bs)
  have HIN : Hid (IntsL w0 al l) := hI
  have HST : Hid (StepsL w0 so ops) := hS
  have HZ : Hid (l.length = Z) := hZ
  have HM : Hid (ops.length = M) := hM
  have HB0 : Hid (Row8 w0 ab nb cb (nums bs)) := hb
  have HBL : Hid (bs.length = nb) := by have := hb.1; rw [nums_len] at this; exact this
  clear hI hS hZ hM hb
  go_enter Try.func7, Try.ntmps7
  go_wp2_with fail
  refine (made_any al Z cl l _ HIN.out HZ.out hZ2).mono ?_
  rintro z w1 ⟨P, av, bv, its, rfl, hP1, hx1⟩
  have HP1 : Hid (Play w0 w1 P av bv its) := hP1
  have HX1 : Hid (its.map It.xs = fresh (rowLens l)) := hx1
  clear hP1 hx1
  go_wp2_with fail
  refine (fixed_any T _).mono ?_
  rintro z w2 ⟨rfl, c2⟩
  have HP2 : Hid (Play w0 w2 P av bv its) := HP1.out.new c2
  clear c2 HP1
  have HY : Hid (its.length = (rowLens l).length) := by
    have h9 := congrArg List.length HX1.out
    unfold fresh at h9
    rw [List.length_map, List.length_map] at h9
    exact h9
  have cE := chg_one w2 (.cells #[] 5)
  have hoE := own_empty w2 5
  have hF : From (w2.alloc (.cells #[] 5)) ab nb cb 1 (ins .u8 (nums bs)) := (Bk.row8_chg HB0.out (chg_then HP2.out.chg cE)).src
  have hs : w2.heap.size ≤ (w2.alloc (.cells #[] 5)).heap.size := cE.size
  go_wp2_with (at_builtin; refine wpList_append_moved rfl _ _ 39 rfl w2.heap.size 5 iu (.int .u8 0) 1 1 Try.underlying39 hiu hu0 hu1 hu2 rfl (by decide) _ 0 [] rfl ab nb cb rfl (ins .u8 (nums bs)) hoE hF hone (by unfold maxLen; omega) (by omega) hs ?_)
  intro v3 w3 ho3 hg3 _
  have c3 : Chg (fun _ => False) w2 w3 := cE.grown hg3 (fun k e => .inr (by cases e; exact Nat.le_refl _))
  have ho3' : w3.ownsRow w2.heap.size 5 1 v3 nb (ins .u8 (nums bs)) := by simpa using ho3
  obtain ⟨oa, oc, hv3⟩ := form1 ho3'
  subst hv3
  have HP3 : Hid (Play w0 w3 P av bv its) := HP2.out.new c3
  have HR3 : Hid (Row8 w3 oa nb oc (nums bs)) := row8_own ho3'
  clear ho3 hg3 hoE hF hs cE c3 ho3' HP2
  go_wp2_with fail
  refine (S.new oa nb oc bs _ HR3.out hdig hnb).mono ?_
  rintro z w4 (⟨h5, rfl, c4⟩ | ⟨h5, hbad, rfl, c4⟩ | ⟨h5, hg0, hg1, a, v, rfl, hD, c4⟩)
  · have HCE : Hid (Chg (fun _ => False) w0 w4) := chg_then HP3.out.chg c4
    clear c4
    go_wp2_with fail
    refine (ref8new_short ab nb cb _ (by rw [← HBL.out]; exact h5)).mono ?_
    rintro z w5 ⟨rfl, rfl⟩
    go_wp2
    go_ret
    exact ⟨rfl, HCE.out⟩
  · have HCE : Hid (Chg (fun _ => False) w0 w4) := chg_then HP3.out.chg c4
    clear c4
    go_wp2_with fail
    refine (ref8new_long ab nb cb bs _ (Bk.row8_chg HB0.out HCE.out) hdig (by rw [← HBL.out]; exact h5) hnb).mono ?_
    rintro z w5 (⟨_, rfl, rfl⟩ | ⟨h1, h2, _⟩)
    rotate_left
    · rcases hbad with h | h
      · exact absurd h1 h
      · omega
    go_wp2
    go_ret
    exact ⟨rfl, HCE.out⟩
  · have HP4 : Hid (Play w0 w4 P av bv its) := HP3.out.new c4
    have HD4 : Hid (Dec w4 w0.heap.size a v bs ⟨5, 4294967295, Rc.code5 bs⟩) := S.down hD HP3.out.chg.size
    clear c4 hD
    go_wp2_with fail
    refine (ref8new_long ab nb cb bs _ (Bk.row8_chg HB0.out HP4.out.chg) hdig (by rw [← HBL.out]; exact h5) hnb).mono ?_
    rintro z w5 (⟨hbad, _⟩ | ⟨_, _, r, y, rfl, _, hR, c5⟩)
    · rcases hbad with h | h
      · exact absurd hg0 h
      · omega
    obtain ⟨Y, hY⟩ : ∃ Y, its.length = Y := ⟨_, rfl⟩
    have hY0 : 0 < Y := by rw [← hY, HY.out]; exact rowLens_pos l
    have hY9 : Y ≤ 17592186044416 := by have h9 := rowLens_len l; rw [← hY, HY.out]; have := HZ.out; omega
    have HT4 : Hid (Trd Dec w0 w5 P av bv its a r v y bs ⟨5, 4294967295, Rc.code5 bs⟩ Y) := by
      have hbs := HP4.out.chg.size
      refine ⟨⟨HP4.out.new c5, S.keep HD4.out c5 (fun f => f) (fun _ _ f => f), ⟨Nat.le_trans hbs hR.hr, hR.blk, owns_base hR.own hbs, hR.dig⟩, ⟨by show 16777216 ≤ 4294967295; omega, by show 4294967295 ≤ 4294967295; omega, hg1, h5⟩, hdig, by rw [HBL.out]; exact hnb, fresh_in HX1.out⟩, hY⟩
    clear c5 hR hY HY HX1 HD4 HP4 HP3 hg0 hg1 h5
    go_wp2_with fail
    go_loopw [13] (fun iv wr => ∃ (i : Nat) (its : List It) (d : Rc.D), i ≤ M ∧ iv = .int .i64 (i : Int) ∧ Hid (Trd Dec w0 wr P av bv its a r v y bs d Y)) (fun iv _ => M - (intOf iv).toNat)
    case atStart => exact ⟨0, _, _, Nat.zero_le _, rfl, HT4.out⟩
    case round =>
      clear HT4
      obtain ⟨i, its, d, hi, rfl, HR⟩ := hrel
      by_cases hlt : i < M
      · have hdi : decide ((i : Int) < (M : Int)) = true := by simp; omega
        obtain ⟨o, ho⟩ : ∃ o, ops[i]? = some o := ⟨_, List.getElem?_eq_getElem (by rw [HM.out]; exact hlt)⟩
        obtain ⟨hI, b, off, rfl, h0, h1, h2, h3, h4⟩ := (HST.out.new HR.out.red.play.chg) i o ho
        have HI : Hid o.I := hI
        clear hI ho
        go_wp2_with fail
        refine (reads_any S G w0 _ P av bv its a r v y bs d o.kd o.row o.p o.n o.x (by rw [HR.out.len]; exact hY0) HR.out.red HI.out.hp HI.out.hn).mono ?_
        rintro z w5 ⟨rfl, its', d', hC, hl5⟩
        have HN : Hid (Trd Dec w0 w5 P av bv its' a r v y bs d' Y) := ⟨hC, by rw [hl5]; exact HR.out.len⟩
        clear hC hl5 HR h0 h1 h2 h3 h4
        go_wp2_with fail
        refine (S.used _ a v bs d' _ HN.out.red.dec).mono ?_
        rintro z w6 ⟨rfl, c6⟩
        have HN6 : Hid (Trd Dec w0 w6 P av bv its' a r v y bs d' Y) := ⟨HN.out.red.new S c6, HN.out.len⟩
        clear c6 HN
        go_wp2_with fail
        refine (rdused_any _ r y bs d' _ HN6.out.red.rdc).mono ?_
        rintro z w9 ⟨rfl, rfl⟩
        go_wp2_with fail
        obtain ⟨dn, hdn⟩ : ∃ dn, dn = decide (d'.n = bs.length ∧ d'.C = 0) := ⟨_, rfl⟩
        have HDN : Hid (dn = decide (d'.n = bs.length ∧ d'.C = 0)) := hdn
        clear hdn
        have hd1 := S.done _ a v bs d' _ HN6.out.red.dec
        rw [← HDN.out] at hd1
        refine hd1.mono ?_
        rintro z w7 ⟨rfl, c7⟩
        have HN7 : Hid (Trd Dec w0 w7 P av bv its' a r v y bs d' Y) := ⟨HN6.out.red.new S c7, HN6.out.len⟩
        clear c7 HN6 hd1
        go_wp2_with fail
        have hd2 := rddone_any _ r y bs d' _ HN7.out.red.rdc
        rw [← HDN.out] at hd2
        refine hd2.mono ?_
        rintro z w8 ⟨rfl, c8⟩
        have HN8 : Hid (Trd Dec w0 w8 P av bv its' a r v y bs d' Y) := ⟨HN7.out.red.new S c8, HN7.out.len⟩
        clear c8 HN7 hd2 HDN
        go_wp2_with fail
        go_roundw
        case rel => exact ⟨i + 1, its', d', by omega, by go_num, HN8.out⟩
        case measure => simp [intOf]; omega
      · have hiM : M = i := by omega
        subst hiM
        have hdi : decide ((M : Int) < (M : Int)) = false := by simp
        have HCE : Hid (Chg (fun _ => False) w0 wr) := HR.out.red.play.chg
        go_wp2_with fail
        refine (same_any w0 _ P av bv its HR.out.red.play (by rw [HR.out.len]; exact hY9)).mono ?_
        rintro z w9 ⟨rfl, rfl⟩
        go_wp2
        go_ret
        exact ⟨rfl, HCE.out⟩
end Go.Proofs.Ytibgjpifmpljkaa
