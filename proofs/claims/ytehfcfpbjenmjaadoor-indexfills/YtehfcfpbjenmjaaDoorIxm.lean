/- The walk of IndexSole; of no statement by itself. -/
import Derived.Test.YtehfcfpbjenmjaaDoorIxl
namespace Go.Proofs.YtehfcfpbjenmjaaDoor
open Go.RowKit
set_option linter.unusedVariables false
set_option linter.unusedSimpArgs false
theorem right_I {l : List Rec} (h : Ix23.rightB 0 0 l = true) : ∀ (k : Nat) (q : Rec), l[k]? = some q → q.I := fun k q hk => by
  have h1 := (Ix23.right_is h (by omega) (by omega)).1 q (List.mem_of_getElem? hk)
  unfold Rec.I I64
  omega
theorem filter_le (bs : List Nat) : (bs.filter (fun x => decide (x < 128))).length ≤ bs.length := List.length_filter_le _ _
variable {Tab : World → Prop}
set_option maxHeartbeats 16000000 in
set_option maxRecDepth 100000 in
theorem sole23_any (S : IndexSpec Tab) (ba : Option Addr) (n bc : Nat) (bs : List Nat) (w0 : World) (hT : Tab w0) (hb : Row8 w0 ba n bc (nums bs)) (hd : Rc.Dig bs) (hbc : n ≤ bc) (hn : n ≤ 17592186044416) : Calls Tryd.prog 3 #[.slice ba n bc] w0 fun e w' => e = .returned (.bool true) ∧ Chg (fun _ => False) w0 w' := by
  have HT : Hid (Tab w0) := hT
  have HB : Hid (Row8 w0 ba n bc (nums bs)) := hb
  have HD : Hid (Rc.Dig bs) := hd
  have hbl : bs.length = n := by have h9 := hb.1; rw [nums_len] at h9; exact h9
  have HBL : Hid (bs.length = n) := hbl
  have hni : (n : Int) ≤ 17592186044416 := by omega
  have HK : Hid (∀ ww, Chg (fun _ => False) w0 ww → Calls Tryd.prog 11 #[] ww fun e w' => e = .returned (.bool true) ∧ Chg (fun _ => False) ww w') := fun ww hc => known23_any S ww (S.keep HT.out hc)
  have HG : Hid _ := S.get ba n bc bs w0 hT hb hd hbc (by omega) (.inr (by have := filter_le bs; omega))
  have herr := Ix23.getI_err bs
  have hback := Ix23.get_backI hd
  obtain ⟨⟨L, N, er⟩, hg⟩ : ∃ x, Ix23.getI bs = x := ⟨_, rfl⟩
  rw [hg] at HG herr hback
  simp only at HG herr hback
  have HBK : Hid _ := hback
  clear hT hb hd hbl hg hback
  rcases herr with rfl | ⟨h3, rfl, rfl⟩
  · obtain ⟨b1, b2, b3, b4⟩ := HBK.out rfl
    rw [HBL.out] at b3 b4
    have HR : Hid (Ix23.rightB 0 0 L = true) := b1
    have HP2 : Hid (Ix23.putI L = (bs.take N, 0)) := b2
    have hNn : N ≤ n := b3
    have hNi : (N : Int) ≤ (n : Int) := by omega
    have HLN : Hid (L.length ≤ 8796093022208) := by show _ ≤ _; omega
    clear b1 b2 b3 b4 HBK
    go_enter Tryd.func3, Tryd.ntmps3
    go_wp2_with fail
    refine Calls.mono HG.out ?_
    rintro z w1 ⟨lv, rfl, hl, c1⟩
    obtain ⟨la, lc, rfl, _⟩ := formI hl
    have HC1 : Hid (Chg (fun _ => False) w0 w1) := c1
    have HP : Hid _ := S.put la L.length lc L w1 (S.keep HT.out c1) (RcO.F hl (right_I HR.out)) HLN.out
    rw [HP2.out] at HP
    clear hl c1 HG
    generalize L.length = LL at *
    go_wp2_with fail
    refine Calls.mono (num_q _ _) ?_
    rintro z w2 ⟨rfl, rfl⟩
    go_wp2_with fail
    refine Calls.mono HP.out ?_
    rintro z w2 ⟨ov, rfl, ho, c2⟩
    have hlt : (bs.take N).length = N := by rw [List.length_take, HBL.out]; omega
    obtain ⟨oa, oc, rfl⟩ := byO_form ho
    rw [hlt] at ho ⊢
    have HC2 : Hid (Chg (fun _ => False) w0 w2) := chg_then HC1.out c2
    have HRO : Hid (Row8 w2 oa N oc (nums (bs.take N))) := (byO_row ho).1
    have HRB : Hid (Row8 w2 ba N bc (nums (bs.take N))) := row8_take (Bk.row8_chg HB.out HC2.out) hNn
    obtain ⟨ST, hST⟩ : ∃ x, strOfNums (nums (bs.take N)) = x := ⟨_, rfl⟩
    have hss : (ST.toList == ST.toList) = true := by simp
    have hcut : ∀ ww, (Instr.sliceAt 22 (.slice ba n bc) none (some (.int .i64 (N : Int))) none).run Tryd.prog ww = .ok (.slice ba N bc) ww := fun ww => run_cutZ_hi undBy elemBy sizeBy _ n bc N ww (by omega)
    have g1 : decide ((N : Int) ≤ (n : Int)) = true := decide_eq_true hNi
    have g1' : decide (N ≤ n) = true := decide_eq_true hNn
    have g2 : ((N : Int) == (N : Int)) = true := by simp
    clear ho c2 HP hlt
    go_upto_region 5 with fail
    refine wp_region_last (mk := fun u => #[_, _, _, _, _, _, _, _, _, _, _, _, _, _, _, _, _, _, _, _, _, _, _, _, _, _, _, _, _, _, _, _, _, _, _, _, _, _, _, _, _, _, _, _, _, _, _, u 47, u 48, u 49, u 50, u 51, u 52, u 53, u 54, u 55, u 56, u 57, u 58, u 59, u 60, u 61, u 62, u 63, u 64, u 65, u 66, u 67, u 68, u 69, u 70, u 71, u 72, u 73]) (F := fun slot vv ww => (look [(47, .val (.int .i64 0)), (48, .val (.int .i64 0)), (49, .val (.bool true)), (50, .val (.bool true)), (51, .val (.int .i64 (N : Int))), (52, .val (.slice oa N oc)), (53, .val (.int .i64 (N : Int))), (54, .val (.bool true)), (55, .val (.bool true)), (56, .val (.bool true)), (57, .val (.int .i64 (N : Int))), (58, .val (.slice ba n bc)), (59, .val (.int .i64 (n : Int))), (60, .val (.bool true)), (61, .val (.bool true)), (62, .val (.bool true)), (63, .val (.slice oa N oc)), (64, .val (.string ST)), (65, .val (.slice ba n bc)), (66, .val (.int .i64 (N : Int))), (67, .val (.slice ba N bc)), (68, .val (.string ST)), (69, .val (.bool true)), (70, .val (.bool true)), (71, .val (.bool true)), (72, .val (.bool true)), (73, .val (.bool true))] slot).holds vv ww) (fun _ => undef) rfl (by kernel_rfl) 27 _ rfl rfl (by kernel_rfl) ?_ (fun _ v w w' hc h => Fact.stays _ v w w' hc h) ?_ ?_
    · repeat (refine ⟨⟨_, rfl, fun _ _ => rfl⟩, ?_⟩)
      exact trivial
    · refine ⟨?_, ?_, ?_, ?_, ?_, ?_, ?_, ?_, ?_, ?_, ?_, ?_, ?_, ?_, ?_, ?_, ?_, ?_, ?_, ?_, ?_, ?_, ?_, ?_, ?_, ?_, ?_, trivial⟩
      · intro u w_ hc hd K hK -- 47
        clear hd
        go_simp
        exact hK.out (.int .i64 0) w_ (Chg.refl _ _) rfl
      · intro u w_ hc hd K hK -- 48
        have h47 : (Fact.val (.int .i64 0)).holds (u 47) w_ := hd.get 0 (by kernel_rfl)
        simp only [Fact.holds] at h47
        clear hd
        simp only [h47] at hK
        go_simp
        refine Calls.mono (num_q _ _) ?_
        rintro z w2 ⟨rfl, rfl⟩
        exact hK.out _ _ (Chg.refl _ _) rfl
      · intro u w_ hc hd K hK -- 49
        have h48 : (Fact.val (.int .i64 0)).holds (u 48) w_ := hd.get 1 (by kernel_rfl)
        simp only [Fact.holds] at h48
        clear hd
        simp only [h48] at hK
        go_simp
        exact hK.out (.bool true) w_ (Chg.refl _ _) rfl
      · intro u w_ hc hd K hK -- 50
        have h49 : (Fact.val (.bool true)).holds (u 49) w_ := hd.get 2 (by kernel_rfl)
        simp only [Fact.holds] at h49
        clear hd
        simp only [h49] at hK
        go_simp
        exact hK.out (.bool true) w_ (Chg.refl _ _) rfl
      · intro u w_ hc hd K hK -- 51
        have h50 : (Fact.val (.bool true)).holds (u 50) w_ := hd.get 3 (by kernel_rfl)
        simp only [Fact.holds] at h50
        clear hd
        simp only [h50] at hK
        go_simp
        exact hK.out (.int .i64 (N : Int)) w_ (Chg.refl _ _) rfl
      · intro u w_ hc hd K hK -- 52
        have h50 : (Fact.val (.bool true)).holds (u 50) w_ := hd.get 3 (by kernel_rfl)
        simp only [Fact.holds] at h50
        clear hd
        simp only [h50] at hK
        go_simp
        exact hK.out (.slice oa N oc) w_ (Chg.refl _ _) rfl
      · intro u w_ hc hd K hK -- 53
        have h52 : (Fact.val (.slice oa N oc)).holds (u 52) w_ := hd.get 5 (by kernel_rfl)
        simp only [Fact.holds] at h52
        have h50 : (Fact.val (.bool true)).holds (u 50) w_ := hd.get 3 (by kernel_rfl)
        simp only [Fact.holds] at h50
        clear hd
        simp only [h50, h52] at hK
        go_simp
        exact hK.out (.int .i64 (N : Int)) w_ (Chg.refl _ _) rfl
      · intro u w_ hc hd K hK -- 54
        have h51 : (Fact.val (.int .i64 (N : Int))).holds (u 51) w_ := hd.get 4 (by kernel_rfl)
        simp only [Fact.holds] at h51
        have h53 : (Fact.val (.int .i64 (N : Int))).holds (u 53) w_ := hd.get 6 (by kernel_rfl)
        simp only [Fact.holds] at h53
        have h50 : (Fact.val (.bool true)).holds (u 50) w_ := hd.get 3 (by kernel_rfl)
        simp only [Fact.holds] at h50
        clear hd
        simp only [h50, h51, h53] at hK
        go_simp
        exact hK.out (.bool true) w_ (Chg.refl _ _) rfl
      · intro u w_ hc hd K hK -- 55
        have h50 : (Fact.val (.bool true)).holds (u 50) w_ := hd.get 3 (by kernel_rfl)
        simp only [Fact.holds] at h50
        have h54 : (Fact.val (.bool true)).holds (u 54) w_ := hd.get 7 (by kernel_rfl)
        simp only [Fact.holds] at h54
        clear hd
        simp only [h50, h54] at hK
        go_simp
        exact hK.out (.bool true) w_ (Chg.refl _ _) rfl
      · intro u w_ hc hd K hK -- 56
        have h55 : (Fact.val (.bool true)).holds (u 55) w_ := hd.get 8 (by kernel_rfl)
        simp only [Fact.holds] at h55
        clear hd
        simp only [h55] at hK
        go_simp
        exact hK.out (.bool true) w_ (Chg.refl _ _) rfl
      · intro u w_ hc hd K hK -- 57
        have h56 : (Fact.val (.bool true)).holds (u 56) w_ := hd.get 9 (by kernel_rfl)
        simp only [Fact.holds] at h56
        clear hd
        simp only [h56] at hK
        go_simp
        exact hK.out (.int .i64 (N : Int)) w_ (Chg.refl _ _) rfl
      · intro u w_ hc hd K hK -- 58
        have h56 : (Fact.val (.bool true)).holds (u 56) w_ := hd.get 9 (by kernel_rfl)
        simp only [Fact.holds] at h56
        clear hd
        simp only [h56] at hK
        go_simp
        exact hK.out (.slice ba n bc) w_ (Chg.refl _ _) rfl
      · intro u w_ hc hd K hK -- 59
        have h58 : (Fact.val (.slice ba n bc)).holds (u 58) w_ := hd.get 11 (by kernel_rfl)
        simp only [Fact.holds] at h58
        have h56 : (Fact.val (.bool true)).holds (u 56) w_ := hd.get 9 (by kernel_rfl)
        simp only [Fact.holds] at h56
        clear hd
        simp only [h56, h58] at hK
        go_simp
        exact hK.out (.int .i64 (n : Int)) w_ (Chg.refl _ _) rfl
      · intro u w_ hc hd K hK -- 60
        have h57 : (Fact.val (.int .i64 (N : Int))).holds (u 57) w_ := hd.get 10 (by kernel_rfl)
        simp only [Fact.holds] at h57
        have h59 : (Fact.val (.int .i64 (n : Int))).holds (u 59) w_ := hd.get 12 (by kernel_rfl)
        simp only [Fact.holds] at h59
        have h56 : (Fact.val (.bool true)).holds (u 56) w_ := hd.get 9 (by kernel_rfl)
        simp only [Fact.holds] at h56
        clear hd
        simp only [h56, h57, h59] at hK
        go_simp
        exact hK.out (.bool true) w_ (Chg.refl _ _) rfl
      · intro u w_ hc hd K hK -- 61
        have h56 : (Fact.val (.bool true)).holds (u 56) w_ := hd.get 9 (by kernel_rfl)
        simp only [Fact.holds] at h56
        have h60 : (Fact.val (.bool true)).holds (u 60) w_ := hd.get 13 (by kernel_rfl)
        simp only [Fact.holds] at h60
        clear hd
        simp only [h56, h60] at hK
        go_simp
        exact hK.out (.bool true) w_ (Chg.refl _ _) rfl
      · intro u w_ hc hd K hK -- 62
        have h61 : (Fact.val (.bool true)).holds (u 61) w_ := hd.get 14 (by kernel_rfl)
        simp only [Fact.holds] at h61
        clear hd
        simp only [h61] at hK
        go_simp
        exact hK.out (.bool true) w_ (Chg.refl _ _) rfl
      · intro u w_ hc hd K hK -- 63
        have h62 : (Fact.val (.bool true)).holds (u 62) w_ := hd.get 15 (by kernel_rfl)
        simp only [Fact.holds] at h62
        clear hd
        simp only [h62] at hK
        go_simp
        exact hK.out (.slice oa N oc) w_ (Chg.refl _ _) rfl
      · intro u w_ hc hd K hK -- 64
        have h63 : (Fact.val (.slice oa N oc)).holds (u 63) w_ := hd.get 16 (by kernel_rfl)
        simp only [Fact.holds] at h63
        have h62 : (Fact.val (.bool true)).holds (u 62) w_ := hd.get 15 (by kernel_rfl)
        simp only [Fact.holds] at h62
        clear hd
        simp only [h62, h63] at hK
        have hcv := Bk.conv8_here (Bk.row8_chg HRO.out hc)
        rw [hST] at hcv
        go_simp
        exact hK.out _ w_ (Chg.refl _ _) rfl
      · intro u w_ hc hd K hK -- 65
        have h62 : (Fact.val (.bool true)).holds (u 62) w_ := hd.get 15 (by kernel_rfl)
        simp only [Fact.holds] at h62
        clear hd
        simp only [h62] at hK
        go_simp
        exact hK.out (.slice ba n bc) w_ (Chg.refl _ _) rfl
      · intro u w_ hc hd K hK -- 66
        have h62 : (Fact.val (.bool true)).holds (u 62) w_ := hd.get 15 (by kernel_rfl)
        simp only [Fact.holds] at h62
        clear hd
        simp only [h62] at hK
        go_simp
        exact hK.out (.int .i64 (N : Int)) w_ (Chg.refl _ _) rfl
      · intro u w_ hc hd K hK -- 67
        have h65 : (Fact.val (.slice ba n bc)).holds (u 65) w_ := hd.get 18 (by kernel_rfl)
        simp only [Fact.holds] at h65
        have h66 : (Fact.val (.int .i64 (N : Int))).holds (u 66) w_ := hd.get 19 (by kernel_rfl)
        simp only [Fact.holds] at h66
        have h62 : (Fact.val (.bool true)).holds (u 62) w_ := hd.get 15 (by kernel_rfl)
        simp only [Fact.holds] at h62
        clear hd
        simp only [h62, h65, h66] at hK
        go_simp
        exact hK.out (.slice ba N bc) w_ (Chg.refl _ _) rfl
      · intro u w_ hc hd K hK -- 68
        have h67 : (Fact.val (.slice ba N bc)).holds (u 67) w_ := hd.get 20 (by kernel_rfl)
        simp only [Fact.holds] at h67
        have h62 : (Fact.val (.bool true)).holds (u 62) w_ := hd.get 15 (by kernel_rfl)
        simp only [Fact.holds] at h62
        clear hd
        simp only [h62, h67] at hK
        have hcv := Bk.conv8_here (Bk.row8_chg HRB.out hc)
        rw [hST] at hcv
        go_simp
        exact hK.out _ w_ (Chg.refl _ _) rfl
      · intro u w_ hc hd K hK -- 69
        have h64 : (Fact.val (.string ST)).holds (u 64) w_ := hd.get 17 (by kernel_rfl)
        simp only [Fact.holds] at h64
        have h68 : (Fact.val (.string ST)).holds (u 68) w_ := hd.get 21 (by kernel_rfl)
        simp only [Fact.holds] at h68
        have h62 : (Fact.val (.bool true)).holds (u 62) w_ := hd.get 15 (by kernel_rfl)
        simp only [Fact.holds] at h62
        clear hd
        simp only [h62, h64, h68] at hK
        go_simp
        exact hK.out (.bool true) w_ (Chg.refl _ _) rfl
      · intro u w_ hc hd K hK -- 70
        have h62 : (Fact.val (.bool true)).holds (u 62) w_ := hd.get 15 (by kernel_rfl)
        simp only [Fact.holds] at h62
        have h69 : (Fact.val (.bool true)).holds (u 69) w_ := hd.get 22 (by kernel_rfl)
        simp only [Fact.holds] at h69
        clear hd
        simp only [h62, h69] at hK
        go_simp
        exact hK.out (.bool true) w_ (Chg.refl _ _) rfl
      · intro u w_ hc hd K hK -- 71
        have h70 : (Fact.val (.bool true)).holds (u 70) w_ := hd.get 23 (by kernel_rfl)
        simp only [Fact.holds] at h70
        clear hd
        simp only [h70] at hK
        go_simp
        exact hK.out (.bool true) w_ (Chg.refl _ _) rfl
      · intro u w_ hc hd K hK -- 72
        have h71 : (Fact.val (.bool true)).holds (u 71) w_ := hd.get 24 (by kernel_rfl)
        simp only [Fact.holds] at h71
        clear hd
        simp only [h71] at hK
        go_simp
        refine Calls.mono (HK.out w_ (chg_then HC2.out hc)) ?_
        rintro z w2 ⟨rfl, c2⟩
        exact hK.out _ w2 c2 rfl
      · intro u w_ hc hd K hK -- 73
        have h71 : (Fact.val (.bool true)).holds (u 71) w_ := hd.get 24 (by kernel_rfl)
        simp only [Fact.holds] at h71
        have h72 : (Fact.val (.bool true)).holds (u 72) w_ := hd.get 25 (by kernel_rfl)
        simp only [Fact.holds] at h72
        clear hd
        simp only [h71, h72] at hK
        go_simp
        exact hK.out (.bool true) w_ (Chg.refl _ _) rfl
    · intro u w7 hc hA K hK
      have h73 : (Fact.val (.bool true)).holds (u 73) w7 := hA.at 73 (by kernel_rfl)
      simp only [Fact.holds] at h73
      have HC7 : Hid (Chg (fun _ => False) w0 w7) := chg_then HC2.out hc
      clear hA hc
      simp only [h73] at hK ⊢
      go_simp
      refine hK.out _ _ ?_
      go_wp2
      go_ret
      exact ⟨rfl, HC7.out⟩
  · have her : (er != 0) = true := by simp; omega
    go_enter Tryd.func3, Tryd.ntmps3
    go_wp2_with fail
    refine Calls.mono HG.out ?_
    rintro z w1 ⟨lv, rfl, hl, c1⟩
    obtain ⟨la, lc, rfl, _⟩ := formI hl
    have HC1 : Hid (Chg (fun _ => False) w0 w1) := c1
    clear hl c1 HG HBK
    go_wp2_with fail
    refine Calls.mono (num_q _ _) ?_
    rintro z w2 ⟨rfl, rfl⟩
    rcases h3 with rfl | rfl | rfl
    · go_wp2_with fail
      refine Calls.mono (num_q _ _) ?_
      rintro z w2 ⟨rfl, rfl⟩
      go_wp2_with fail
      refine Calls.mono (HK.out _ HC1.out) ?_
      rintro z w2 ⟨rfl, c2⟩
      have HC2 : Hid (Chg (fun _ => False) w0 w2) := chg_then HC1.out c2
      clear c2
      go_wp2
      go_ret
      exact ⟨rfl, HC2.out⟩
    · go_wp2_with fail
      refine Calls.mono (num_q _ _) ?_
      rintro z w2 ⟨rfl, rfl⟩
      go_wp2_with fail
      refine Calls.mono (num_q _ _) ?_
      rintro z w2 ⟨rfl, rfl⟩
      go_wp2_with fail
      refine Calls.mono (HK.out _ HC1.out) ?_
      rintro z w2 ⟨rfl, c2⟩
      have HC2 : Hid (Chg (fun _ => False) w0 w2) := chg_then HC1.out c2
      clear c2
      go_wp2
      go_ret
      exact ⟨rfl, HC2.out⟩
    · go_wp2_with fail
      refine Calls.mono (num_q _ _) ?_
      rintro z w2 ⟨rfl, rfl⟩
      go_wp2_with fail
      refine Calls.mono (num_q _ _) ?_
      rintro z w2 ⟨rfl, rfl⟩
      go_wp2_with fail
      refine Calls.mono (num_q _ _) ?_
      rintro z w2 ⟨rfl, rfl⟩
      go_wp2_with fail
      refine Calls.mono (HK.out _ HC1.out) ?_
      rintro z w2 ⟨rfl, c2⟩
      have HC2 : Hid (Chg (fun _ => False) w0 w2) := chg_then HC1.out c2
      clear c2
      go_wp2
      go_ret
      exact ⟨rfl, HC2.out⟩
end Go.Proofs.YtehfcfpbjenmjaaDoor
