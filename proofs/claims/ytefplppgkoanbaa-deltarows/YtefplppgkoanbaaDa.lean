/- Each undoes the other: the walk of DeltaBack; of no statement by itself. -/
import Derived.Test.YtefplppgkoanbaaDs
namespace Go.Proofs.Ytefplppgkoanbaa
open Go.RowKit
set_option linter.unusedVariables false
set_option linter.unusedSimpArgs false
variable {Fi : World → Nat → Nat → (Nat → Prop) → Nat → Bool → List Nat → Prop}
theorem two_fix : De19.cd false 1 [7, 9] = [7, 2] := by decide +kernel
theorem byO_row' {w : World} {B : Nat} {ad : Option Addr} {c n : Nat} {bs : List Nat} (h : ByO w B (.slice ad n c) bs) : Row8 w ad n c (nums bs) := (byO_row h).1
theorem conv_by {w : World} {ad : Option Addr} {n c : Nat} {bs : List Nat} (h : Row8 w ad n c (nums bs)) : (convert 22 9 (.slice ad n c)).run Try.prog w = .ok (.string (strOfNums (nums bs))) w := Bk.conv8_here h
theorem row8_lit2 (w : World) (a b : Int) (t : TypeId) : Row8 (w.alloc (.cells #[.int .u8 a, .int .u8 b] t)) (some ⟨w.heap.size, 0, none⟩) 2 2 [a, b] := by
  refine ⟨rfl, .inr ⟨_, rfl, fun j u hu => ?_⟩⟩
  rw [addk, Nat.zero_add]
  simp only [World.cell?, heap_alloc_last]
  simpa using hu
theorem by_dig {back : Bool} {d : Nat} {bs : List Nat} : Rc.Dig (De19.cd back d bs) := De19.cd_by back d bs
set_option maxHeartbeats 8000000 in
set_option maxRecDepth 100000 in
theorem dback_any (S : DeltaSpec Fi) (ad : Option Addr) (n c : Nat) (bs : List Nat) (m : Int) (hm : I64 m) (w0 : World) (hr : Row8 w0 ad n c (nums bs)) (hg : Rc.Dig bs) (hn : n ≤ 140737488355328) : Calls Try.prog 4 #[.slice ad n c, .int .i64 m] w0 fun e w' => e = .returned (.bool true) ∧ Chg (fun _ => False) w0 w' := by
  have hbl : bs.length = n := by have h9 := hr.1; rw [nums_len] at h9; exact h9
  have HBL : Hid (bs.length = n) := hbl
  have HR : Hid (Row8 w0 ad n c (nums bs) ∧ Rc.Dig bs) := ⟨hr, hg⟩
  have HD : Hid _ := distance_q m hm w0
  have HG := dN_good m
  obtain ⟨d, hd⟩ : ∃ d, dN m = d := ⟨_, rfl⟩
  rw [hd] at HD HG
  have HGD : Hid (goodD (d : Int)) := HG.1
  have HB1 : Hid _ := both_any S d HG.1 ad n c bs w0 hr hg hn
  have hdi : (d : Int) ≤ 256 := by have := HG.2.2; omega
  clear hbl hr hg hd HG
  go_enter Try.func4, Try.ntmps4
  go_wp2_with fail
  refine Calls.mono HD.out ?_
  rintro z w0 ⟨rfl, rfl⟩
  clear HD
  go_wp2_with fail
  refine Calls.mono HB1.out ?_
  rintro z w1 ⟨x, y, rfl, hx, hy, _, c1⟩
  obtain ⟨xa, xc, rfl⟩ := byO_form hx
  obtain ⟨ya, yc, rfl⟩ := byO_form hy
  have hlx : (De19.cd false d bs).length = n := by rw [De19.cd_len]; exact HBL.out
  have hly : (De19.cd true d bs).length = n := by rw [De19.cd_len]; exact HBL.out
  rw [hlx, hly]
  rw [hlx] at hx
  rw [hly] at hy
  have HC1 : Hid (Chg (fun _ => False) w0 w1) := c1
  have HX : Hid (Row8 w1 xa n xc (nums (De19.cd false d bs))) := byO_row' hx
  have HY : Hid (Row8 w1 ya n yc (nums (De19.cd true d bs))) := byO_row' hy
  have HB2 : Hid _ := both_any S d HGD.out xa n xc (De19.cd false d bs) w1 HX.out by_dig hn
  clear hx hy c1 HB1 hlx hly
  go_wp2_with fail
  refine Calls.mono HB2.out ?_
  rintro z w2 ⟨x2, y2, rfl, hx2, hy2, _, c2⟩
  obtain ⟨xa2, xc2, rfl⟩ := byO_form hx2
  obtain ⟨ya2, yc2, rfl⟩ := byO_form hy2
  have hlx : (De19.cd false d (De19.cd false d bs)).length = n := by rw [De19.cd_len, De19.cd_len]; exact HBL.out
  have hly : (De19.cd true d (De19.cd false d bs)).length = n := by rw [De19.cd_len, De19.cd_len]; exact HBL.out
  rw [hlx, hly]
  rw [hly] at hy2
  have hth : De19.cd true d (De19.cd false d bs) = bs := De19.there false d bs HR.out.2
  rw [hth] at hy2
  have HC2 : Hid (Chg (fun _ => False) w0 w2) := chg_then HC1.out c2
  have HU : Hid (Row8 w2 ya2 n yc2 (nums bs)) := byO_row' hy2
  have HY2 : Hid (Row8 w2 ya n yc (nums (De19.cd true d bs))) := Bk.row8_chg HY.out c2
  have HB3 : Hid _ := both_any S d HGD.out ya n yc (De19.cd true d bs) w2 HY2.out by_dig hn
  clear hx2 hy2 c2 HB2 hlx hly hth HX HY HC1
  go_wp2_with fail
  refine Calls.mono HB3.out ?_
  rintro z w3 ⟨x3, y3, rfl, hx3, hy3, _, c3⟩
  obtain ⟨xa3, xc3, rfl⟩ := byO_form hx3
  obtain ⟨ya3, yc3, rfl⟩ := byO_form hy3
  have hlx : (De19.cd false d (De19.cd true d bs)).length = n := by rw [De19.cd_len, De19.cd_len]; exact HBL.out
  have hly : (De19.cd true d (De19.cd true d bs)).length = n := by rw [De19.cd_len, De19.cd_len]; exact HBL.out
  rw [hlx, hly]
  rw [hlx] at hx3
  have hth : De19.cd false d (De19.cd true d bs) = bs := De19.there true d bs HR.out.2
  rw [hth] at hx3
  have HC3 : Hid (Chg (fun _ => False) w0 w3) := chg_then HC2.out c3
  have HV : Hid (Row8 w3 xa3 n xc3 (nums bs)) := byO_row' hx3
  have HU3 : Hid (Row8 w3 ya2 n yc2 (nums bs)) := Bk.row8_chg HU.out c3
  have c4 := chg_one w3 (.cells #[.int .u8 7, .int .u8 9] 5)
  have HE : Hid _ := S.enc (some ⟨w3.heap.size, 0, none⟩) 2 2 [7, 9] 1 (w3.alloc (.cells #[.int .u8 7, .int .u8 9] 5)) (row8_lit2 w3 7 9 5) (by intro x hx; simp at hx; omega) (Nat.le_refl _) (by decide) ⟨by decide, by decide⟩
  have hcf : codeA false 1 [7, 9] = ([7, 2], 0) := by decide +kernel
  rw [hcf] at HE
  simp only at HE
  have HC4 : Hid (Chg (fun _ => False) w0 (w3.alloc (.cells #[.int .u8 7, .int .u8 9] 5))) := chg_then HC3.out c4
  have HU4 : Hid (Row8 (w3.alloc (.cells #[.int .u8 7, .int .u8 9] 5)) ya2 n yc2 (nums bs)) := Bk.row8_chg HU3.out c4
  have HV4 : Hid (Row8 (w3.alloc (.cells #[.int .u8 7, .int .u8 9] 5)) xa3 n xc3 (nums bs)) := Bk.row8_chg HV.out c4
  clear hx3 hy3 c3 c4 HB3 hlx hly hth HY2 HU HU3 HV HC2 HC3 hcf
  go_wp2_with fail
  refine Calls.mono HE.out ?_
  rintro z w5 ⟨t, rfl, ht, c5⟩
  obtain ⟨ta, tc, rfl⟩ := byO_form ht
  have ht2 : ByO w5 (w3.alloc (.cells #[.int .u8 7, .int .u8 9] 5)).heap.size (.slice ta 2 tc) [7, 2] := ht
  have HC5 : Hid (Chg (fun _ => False) w0 w5) := chg_then HC4.out c5
  have k1 := conv_by (Bk.row8_chg HU4.out c5)
  have k2 := conv_by (Bk.row8_chg HV4.out c5)
  have k3 := conv_by (Bk.row8_chg HR.out.1 HC5.out)
  have k4 : (convert 22 9 (.slice ta 2 tc)).run Try.prog w5 = .ok (.string (strOfNums (nums [7, 2]))) w5 := conv_by (byO_row' ht2)
  have hst : strOfNums (nums [7, 2]) = { data := #[7, 2] } := by kernel_rfl
  rw [hst] at k4
  generalize strOfNums (nums bs) = SB at *
  have hss : (SB.toList == SB.toList) = true := by simp
  simp only [List.length_cons, List.length_nil, Nat.reduceAdd]
  clear ht ht2 c5 HE HC4 HU4 HV4 hst
  go_wp2
  go_ret
  exact ⟨rfl, HC5.out⟩
end Go.Proofs.Ytefplppgkoanbaa
