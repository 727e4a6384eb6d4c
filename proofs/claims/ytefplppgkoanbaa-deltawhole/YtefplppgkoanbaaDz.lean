/- The same list with other bytes in it; of no statement by itself. -/
import Derived.Test.YtefplppgkoanbaaDw
namespace Go.Proofs.Ytefplppgkoanbaa
open Go.RowKit
set_option linter.unusedVariables false
set_option linter.unusedSimpArgs false
variable {Fi : World → Nat → Nat → (Nat → Prop) → Nat → Bool → List Nat → Prop}
theorem row8_frontT {w : World} {B : Nat} {fa : Option Addr} {n fc : Nat} {bs : List Nat} (h : ByO w B (.slice fa (n + 1) fc) bs) : Row8 w fa n fc (nums (bs.take n)) := row8_take (byO_row h).1 (by omega)
set_option maxHeartbeats 8000000 in
set_option maxRecDepth 100000 in
theorem anew_any (S : DeltaSpec Fi) (B gf n fc : Nat) (bs : List Nat) (d : Int) (hd : I64 d) (w : World) (hf : ByO w B (.slice (some ⟨gf, 0, none⟩) (n + 1) fc) bs) (hg : Rc.Dig bs) (hn : n ≤ 140737488351232) : Calls Try.prog 22 #[.slice (some ⟨gf, 0, none⟩) n fc, .int .i64 d] w fun e w' => e = .returned (.bool true) ∧ Chg (fun z => z = gf) w w' := by
  obtain ⟨iu, hiu, hu0, hu1, hu2⟩ := info_parts info5u
  have hni : (n : Int) ≤ 140737488351232 := by omega
  have hcap : n + 1 ≤ fc := (byO_row hf).2.2
  have HF : Hid (∃ b9, ByO w B (.slice (some ⟨gf, 0, none⟩) (n + 1) fc) b9 ∧ Rc.Dig b9) := ⟨bs, hf, hg⟩
  clear hf hg
  go_enter Try.func22, Try.ntmps22
  go_wp2_with fail
  go_loopw [17] (fun i wr => ∃ t : Nat, t ≤ n ∧ i = .int .i64 (t : Int) ∧ Hid (∃ b9, ByO wr B (.slice (some ⟨gf, 0, none⟩) (n + 1) fc) b9 ∧ Rc.Dig b9) ∧ Hid (Chg (fun z => z = gf) w wr)) (fun i _ => n - (intOf i).toNat)
  case atStart => exact ⟨0, by omega, rfl, HF, Chg.refl _ _⟩
  case round =>
    clear HF
    obtain ⟨t, ht, rfl, HB9, HC9⟩ := hrel
    have hti : (t : Int) ≤ (n : Int) := by omega
    obtain ⟨b9, hb9, hg9⟩ := HB9.out
    by_cases htl : t < n
    · have d5 : decide ((t : Int) < (n : Int)) = true := decide_eq_true (by omega)
      have d5' : decide (t < n) = true := decide_eq_true htl
      have hti2 : (t : Int) < (n : Int) := by omega
      obtain ⟨y, ky, fy⟩ := byO_cellD hb9 (q := t) (by omega)
      have hw1 : IntKind.u8.wrap (t : Int) = ((t % 256 : Nat) : Int) := by simp [IntKind.wrap, IntKind.signed, IntKind.bits]
      have hw2 : IntKind.u8.wrap ((y : Int) + ((t % 256 : Nat) : Int)) = (((y + t % 256) % 256 : Nat) : Int) := by simp [IntKind.wrap, IntKind.signed, IntKind.bits]
      obtain ⟨t2, ht2⟩ : ∃ t2, t % 256 = t2 := ⟨_, rfl⟩
      rw [ht2] at hw1 hw2
      obtain ⟨y2, hy2⟩ : ∃ y2, (y + t2) % 256 = y2 := ⟨_, rfl⟩
      rw [hy2] at hw2
      have hw3 : IntKind.u8.wrap ((y2 : Int) + 1) = (((y2 + 1) % 256 : Nat) : Int) := by simp [IntKind.wrap, IntKind.signed, IntKind.bits]
      have h256 : (y2 + 1) % 256 < 256 := Nat.mod_lt _ (by decide)
      obtain ⟨y3, hy3⟩ : ∃ y3, (y2 + 1) % 256 = y3 := ⟨_, rfl⟩
      rw [hy3] at hw3 h256
      have HBN : Hid (∃ b9, ByO (wr.setCell ⟨gf, t, none⟩ (.int .u8 (y3 : Int))) B (.slice (some ⟨gf, 0, none⟩) (n + 1) fc) b9 ∧ Rc.Dig b9) := ⟨_, byO_setD hb9 (by omega) y3, fun x hx => by
        rcases List.mem_or_eq_of_mem_set hx with e | e
        · exact hg9 x e
        · omega⟩
      have HCN : Hid (Chg (fun z => z = gf) w (wr.setCell ⟨gf, t, none⟩ (.int .u8 (y3 : Int)))) := HC9.out.setCell (p := ⟨gf, t, none⟩) (.inl rfl) _
      clear hb9 hg9 HB9 HC9 ht2 hy2 hy3
      go_wp2
      go_roundw
      case rel => exact ⟨t + 1, by omega, by go_num, HBN, HCN⟩
      case measure => simp [intOf]; omega
    · have htn : n = t := by omega
      have d5 : decide ((t : Int) < (n : Int)) = false := decide_eq_false (by omega)
      have d5' : decide (t < n) = false := decide_eq_false htl
      obtain ⟨cs, hcs⟩ : ∃ cs, b9.take n = cs := ⟨_, rfl⟩
      have hrw : Row8 wr (some ⟨gf, 0, none⟩) n fc (nums cs) := by rw [← hcs]; exact row8_frontT hb9
      have hdg : Rc.Dig cs := fun x hx => hg9 x (List.mem_of_mem_take (by rw [hcs]; exact hx))
      have hcl : cs.length = n := by have h9 := hrw.1; rw [nums_len] at h9; exact h9
      have HCL : Hid (cs.length = n) := hcl
      have HRW : Hid (Row8 wr (some ⟨gf, 0, none⟩) n fc (nums cs)) := hrw
      have HDG : Hid (Rc.Dig cs) := hdg
      have HE : Hid _ := S.enc (some ⟨gf, 0, none⟩) n fc cs d wr hrw hdg (by omega) (by omega) hd
      clear hb9 hg9 HB9 hcs hrw hdg hcl htn
      generalize wr = w1 at *
      go_wp2_with fail
      refine Calls.mono HE.out ?_
      rintro z w2 ⟨yv, rfl, hy, c2⟩
      have HY : Hid (ByO w2 w1.heap.size yv (codeA false d cs).1) := hy
      have HC2 : Hid (Chg (fun _ => False) w1 w2) := c2
      obtain ⟨ya, yc, rfl⟩ := byO_form hy
      have HD : Hid _ := S.dec (some ⟨gf, 0, none⟩) n fc cs d w2 (Bk.row8_chg HRW.out c2) HDG.out (by omega) (by omega) hd
      clear HE hy c2
      go_wp2_with fail
      refine Calls.mono HD.out ?_
      rintro z w3 ⟨zv, rfl, hz, c3⟩
      have HZ : Hid (ByO w3 w2.heap.size zv (codeA true d cs).1) := hz
      have HC3 : Hid (Chg (fun _ => False) w1 w3) := chg_then HC2.out c3
      have HY3 : Hid (ByO w3 w1.heap.size (.slice ya (codeA false d cs).1.length yc) (codeA false d cs).1) := HY.out.new c3
      obtain ⟨za, zc, rfl⟩ := byO_form hz
      have cA := chg_one w3 (.cells #[] 5)
      have hEm := own_empty w3 5
      have hr1 := Bk.row8_chg HRW.out (chg_then HC3.out cA)
      clear HD hz c3 HY HC2
      go_wp2_with (at_builtin; refine wpList_append_moved rfl (.tmp 44) (.tmp 45) 22 rfl w3.heap.size 5 iu (.int .u8 0) 1 1 Try.underlying22 hiu hu0 hu1 hu2 rfl (by decide) _ 0 [] rfl (some ⟨gf, 0, none⟩) n fc rfl ((nums cs).map (Value.int .u8)) hEm hr1.src (oneB cs) (by unfold maxLen; omega) (by omega) (by simp) ?_)
      intro v4 w4 ho4 hg4 _
      have c4 : Chg (fun _ => False) w3 w4 := cA.grown hg4 (fun j e => .inr (by simp [Value.ownBlock] at e; omega))
      obtain ⟨na, nc, rfl⟩ := form1 ho4
      have hN4 : Row8 w4 na n nc (nums cs) := row8_own ho4
      have HN4 : Hid (Row8 w4 na n nc (nums cs)) := hN4
      have HY4 : Hid (ByO w4 w1.heap.size (.slice ya (codeA false d cs).1.length yc) (codeA false d cs).1) := HY3.out.new c4
      have HZ4 : Hid (ByO w4 w2.heap.size (.slice za (codeA true d cs).1.length zc) (codeA true d cs).1) := HZ.out.new c4
      have HC4 : Hid (Chg (fun _ => False) w1 w4) := chg_then HC3.out c4
      have HV : Hid _ := rcode_any na n nc cs d false hd w4 hN4 HDG.out (by omega)
      clear ho4 hg4 c4 hEm hr1 cA hN4 HY3 HZ HC3
      go_wp2_with fail
      refine Calls.mono HV.out ?_
      rintro z w5 ⟨vv, rfl, hv, c5⟩
      have HV5 : Hid (ByO w5 w4.heap.size vv (codeA false d cs).1) := hv
      have HY5 : Hid (ByO w5 w1.heap.size (.slice ya (codeA false d cs).1.length yc) (codeA false d cs).1) := HY4.out.new c5
      have HZ5 : Hid (ByO w5 w2.heap.size (.slice za (codeA true d cs).1.length zc) (codeA true d cs).1) := HZ4.out.new c5
      have HC5 : Hid (Chg (fun _ => False) w1 w5) := chg_then HC4.out c5
      obtain ⟨va, vc, rfl⟩ := byO_form hv
      have HW : Hid _ := rcode_any na n nc cs d true hd w5 (Bk.row8_chg HN4.out c5) HDG.out (by omega)
      clear HV hv c5 HY4 HZ4 HC4
      go_wp2_with fail
      refine Calls.mono HW.out ?_
      rintro z w6 ⟨wv, rfl, hw, c6⟩
      have q1 := conv_own (HY5.out.new c6)
      have q2 := conv_own (HV5.out.new c6)
      have q3 := conv_own (HZ5.out.new c6)
      obtain ⟨wa, wc, rfl⟩ := byO_form hw
      have q4 := conv_own hw
      have HCE : Hid (Chg (fun z => z = gf) w w6) := HC9.out.trans (chg_then HC5.out c6) (fun _ f => f.elim)
      generalize strOfNums (nums (codeA false d cs).1) = s1 at *
      generalize strOfNums (nums (codeA true d cs).1) = s2 at *
      clear HW hw c6 HY5 HZ5 HV5 HC5 HC9
      go_wp2
      go_ret
      exact ⟨rfl, HCE.out⟩
end Go.Proofs.Ytefplppgkoanbaa
