/- The walk of IndexTold; of no statement by itself. -/
import Derived.Test.YtehfcfpbjenmjaaDoorIxn
namespace Go.Proofs.YtehfcfpbjenmjaaDoor
open Go.RowKit
set_option linter.unusedVariables false
set_option linter.unusedSimpArgs false
theorem byO_setI {w : World} {B g n c : Nat} {bs : List Nat} (h : ByO w B (.slice (some ⟨g, 0, none⟩) n c) bs) {q : Nat} (hq : q < n) (x : Nat) : ByO (w.setCell ⟨g, q, none⟩ (.int .u8 (x : Int))) B (.slice (some ⟨g, 0, none⟩) n c) (bs.set q x) := by
  obtain ⟨_, hl, _⟩ := byO_row h
  unfold ByO at h ⊢
  rw [List.length_set]
  rw [hl] at h ⊢
  have := own_set h q (.int .u8 (x : Int)) hq
  rw [ins_set] at this
  rw [show nums (bs.set q x) = (nums bs).set q (x : Int) by simp [nums, List.map_set]]
  exact this
theorem byO_someI {w : World} {B n c : Nat} {a : Option Addr} {bs : List Nat} (h : ByO w B (.slice a n c) bs) (hn : 0 < n) : ∃ g, a = some ⟨g, 0, none⟩ ∧ B ≤ g ∧ (∀ q, q < n → w.cell? ⟨g, q, none⟩ = some (.int .u8 ((bs.getD q 0 : Nat) : Int)) ∧ w.frozen? ⟨g, q, none⟩ = false) := by
  obtain ⟨hr, hl, _⟩ := byO_row h
  have h2 := h
  unfold ByO at h2
  rw [hl] at h2
  obtain ⟨g', c', e3, _, _, _, _, hfr, _⟩ := own_some h2 (by omega)
  simp only [Value.slice.injEq] at e3
  obtain ⟨rfl, _, _⟩ := e3
  obtain ⟨b, off, e, hc⟩ := row8_at hr hn
  simp only [Option.some.injEq, Addr.mk.injEq] at e
  obtain ⟨rfl, rfl, _⟩ := e
  refine ⟨g', rfl, (World.ownsRow.lt h g' rfl).1, fun q hq => ⟨?_, hfr q⟩⟩
  have := hc q hq
  rwa [Nat.zero_add] at this
theorem bit32 (m i : Nat) (hm : m < 4294967296) : bits .and .u32 ((m : Int) / 2 ^ i) 1 = ((m / 2 ^ i % 2 : Nat) : Int) := by
  have e : ((m : Int) / 2 ^ i) = ((m / 2 ^ i : Nat) : Int) := by simp
  rw [e, show (1 : Int) = ((1 : Nat) : Int) from rfl, u32_and_nat _ 1 (Nat.lt_of_le_of_lt (Nat.div_le_self _ _) hm) (by decide)]
  congr 1
  exact Nat.and_one_is_mod _
theorem mod_turn {m i : Nat} (h : m / 2 ^ i % 2 = 1) : m % 2 ^ i ^^^ 2 ^ i = m % 2 ^ (i + 1) := by rw [Cq.Crc.mod_bit, if_pos h]
theorem mod_skip {m i : Nat} (h : m / 2 ^ i % 2 = 0) : m % 2 ^ i = m % 2 ^ (i + 1) := by rw [Cq.Crc.mod_bit, if_neg (by omega), Nat.xor_zero]
variable {Tab : World → Prop}
set_option maxHeartbeats 16000000 in
set_option maxRecDepth 100000 in
theorem told23_any (S : IndexSpec Tab) (ad : Option Addr) (n c : Nat) (l : List Rec) (at_ : Int) (m : Nat) (w0 : World) (hT : Tab w0) (h : RcF w0 ad n c l) (hn : n ≤ 8796093022080) (i5 : I64 at_) (hm : m < 4294967296) : Calls Tryd.prog 4 #[.slice ad n c, .agg #[.int .i64 at_, .int .u32 (m : Int)]] w0 fun e w' => e = .returned (.bool true) ∧ Chg (fun _ => False) w0 w' := by
  obtain ⟨iu, hiu, hu0, hu1, hu2⟩ := info_parts info5u
  have HT : Hid (Tab w0) := hT
  have HK : Hid (∀ ww, Chg (fun _ => False) w0 ww → Calls Tryd.prog 11 #[] ww fun e w' => e = .returned (.bool true) ∧ Chg (fun _ => False) ww w') := fun ww hc => known23_any S ww (S.keep HT.out hc)
  have cA := chg_one w0 (.cells #[.int .i64 at_, .int .u32 (m : Int)] 34)
  have bA := heap_alloc_last w0 (.cells #[.int .i64 at_, .int .u32 (m : Int)] 34)
  have x0 : (w0.alloc (.cells #[.int .i64 at_, .int .u32 (m : Int)] 34)).cell? ⟨w0.heap.size, 0, none⟩ = some (.int .i64 at_) := cell0 bA
  have x1 : (w0.alloc (.cells #[.int .i64 at_, .int .u32 (m : Int)] 34)).cell? ⟨w0.heap.size, 1, none⟩ = some (.int .u32 (m : Int)) := cell1 bA
  have HCA : Hid (Chg (fun _ => False) w0 (w0.alloc (.cells #[.int .i64 at_, .int .u32 (m : Int)] 34))) := cA
  have HP : Hid _ := S.put ad n c l _ (S.keep hT cA) (h.new cA) (by omega)
  have hroom := Ix23.putI_room (l := l) (by rw [h.len]; omega)
  have HLN : Hid (l.length = n) := h.len
  have HPE : Hid ((Ix23.putI l).2 = 0 ∧ Ix23.rightB 0 0 l = true ∨ (Ix23.putI l).2 = 7) := by
    show _ ∨ _
    by_cases hr : Ix23.rightB 0 0 l = true
    · exact .inl ⟨by rw [Ix23.putI_0 hr], hr⟩
    · exact .inr (by rw [Ix23.putI_7 hr])
  have HPD : Hid (Rc.Dig (Ix23.putI l).1) := Ix23.putI_dig l
  have HCT : Hid (Ix23.rightB 0 0 l = true → Ix23.cnt (Ix23.putI l).1 ≤ 2 * n + 9) := fun hr => by have := Ix23.cnt_putI hr; rw [HLN.out] at this; exact this
  have HTL : Hid (∀ (hr : Ix23.rightB 0 0 l = true) (xs : List Nat) (a M : Nat), Cq.Turned (Ix23.putI l).1 xs a 32 M → M ≠ 0 → (Ix23.getI xs).2.2 = 0 → (Ix23.getI xs).2.1 ≠ (Ix23.putI l).1.length) := fun hr xs a M ht hM h0 => Ix23.told_I hr ht hM h0
  have HL8 : Hid (Ix23.rightB 0 0 l = true → 8 ≤ (Ix23.putI l).1.length) := fun hr => by
    have h1 := Ix23.putI_len hr
    have h2 := Ix23.body_four l
    omega
  obtain ⟨ia, ib⟩ := i5
  obtain ⟨P, hPe⟩ : ∃ P, (Ix23.putI l).1 = P := ⟨_, rfl⟩
  obtain ⟨er, hEr⟩ : ∃ e, (Ix23.putI l).2 = e := ⟨_, rfl⟩
  rw [hPe] at HP HPD HCT HTL HL8 hroom
  rw [hEr] at HP HPE
  obtain ⟨L, hL⟩ : ∃ L, P.length = L := ⟨_, rfl⟩
  have HL : Hid (P.length = L) := hL
  rw [hL] at HTL HL8 hroom
  have hLi : (L : Int) ≤ 61572651155500 := by omega
  clear hT h cA bA hPe hEr hL
  go_enter Tryd.func4, Tryd.ntmps4
  go_upto_region 1 with fail
  generalize w0.alloc (.cells #[.int .i64 at_, .int .u32 (m : Int)] 34) = w1 at *
  generalize w0.heap.size = xb at *
  go_wp2_with fail
  refine Calls.mono HP.out ?_
  rintro z w2 ⟨ov, rfl, ho, c2⟩
  obtain ⟨oa, oc, rfl⟩ := byO_form ho
  rw [HL.out] at ho ⊢
  have HC2 : Hid (Chg (fun _ => False) w0 w2) := chg_then HCA.out c2
  replace x0 := cell_chg x0 c2
  replace x1 := cell_chg x1 c2
  have HRP : Hid (Row8 w2 oa L oc (nums P)) := (byO_row ho).1
  clear ho c2 HP HCA
  rcases HPE.out with ⟨rfl, hright⟩ | rfl
  · have HR : Hid (Ix23.rightB 0 0 l = true) := hright
    clear hright HPE
    by_cases hm0 : m = 0
    · subst hm0
      go_wp2_with fail
      refine Calls.mono (num_q _ _) ?_
      rintro z w9 ⟨rfl, rfl⟩
      go_wp2_with fail
      refine Calls.mono (HK.out _ HC2.out) ?_
      rintro z w9 ⟨rfl, c9⟩
      have HC9 : Hid (Chg (fun _ => False) w0 w9) := chg_then HC2.out c9
      clear c9
      go_wp2
      go_ret
      exact ⟨rfl, HC9.out⟩
    by_cases ha0 : at_ < 0
    · have d0 : ((m : Int) == 0) = false := by simp; omega
      go_wp2_with fail
      refine Calls.mono (num_q _ _) ?_
      rintro z w9 ⟨rfl, rfl⟩
      go_wp2_with fail
      refine Calls.mono (HK.out _ HC2.out) ?_
      rintro z w9 ⟨rfl, c9⟩
      have HC9 : Hid (Chg (fun _ => False) w0 w9) := chg_then HC2.out c9
      clear c9
      go_wp2
      go_ret
      exact ⟨rfl, HC9.out⟩
    by_cases ha1 : 8 * (L : Int) < at_
    · have d0 : ((m : Int) == 0) = false := by simp; omega
      go_wp2_with fail
      refine Calls.mono (num_q _ _) ?_
      rintro z w9 ⟨rfl, rfl⟩
      go_wp2_with fail
      refine Calls.mono (HK.out _ HC2.out) ?_
      rintro z w9 ⟨rfl, c9⟩
      have HC9 : Hid (Chg (fun _ => False) w0 w9) := chg_then HC2.out c9
      clear c9
      go_wp2
      go_ret
      exact ⟨rfl, HC9.out⟩
    obtain ⟨Z, hZ⟩ : ∃ Z : Nat, (Z : Int) = at_ := ⟨at_.toNat, Int.toNat_of_nonneg (by omega)⟩
    subst hZ
    have d0 : ((m : Int) == 0) = false := by simp; omega
    have hZL : Z ≤ 8 * L := by omega
    have cZ := chg_one w2 (.cells #[] 5)
    have hown := own_empty w2 5
    have hsrc := (Bk.row8_chg HRP.out cZ).src
    have hB3 : w2.heap.size ≤ (w2.alloc (.cells #[] 5)).heap.size := cZ.size
    have HCZ : Hid (Chg (fun _ => False) w2 (w2.alloc (.cells #[] 5))) := cZ
    have x0z := cell_chg x0 cZ
    have x1z := cell_chg x1 cZ
    clear cZ HRP
    go_wp2_with fail
    refine Calls.mono (num_q _ _) ?_
    rintro z w9 ⟨rfl, rfl⟩
    go_wp2_with (at_builtin; refine wpList_append_moved rfl _ _ 22 rfl w2.heap.size 5 iu (.int .u8 0) 1 1 Tryd.underlying22 hiu hu0 hu1 hu2 rfl (by decide) _ 0 [] rfl oa L oc rfl ((nums P).map (Value.int .u8)) ?h1 ?h2 ?h3 ?m1 ?m2 ?m3 ?_)
    case h1 => exact hown
    case h2 => exact hsrc
    case h3 => exact oneB _
    case m1 => unfold maxLen; omega
    case m2 => omega
    case m3 => exact hB3
    intro v3 w3 ho3 hg3 hm3
    have c3 : Chg (fun _ => False) w2 w3 := HCZ.out.grown hg3 (fun j e => .inr (by simp [Value.ownBlock] at e; omega))
    try simp only [List.nil_append, Nat.zero_add] at ho3
    have hj : ByO w3 w2.heap.size v3 P := by
      unfold ByO
      rw [HL.out]
      exact ho3
    obtain ⟨ja, jc, rfl⟩ := form1 ho3
    have hL8 : 8 ≤ L := HL8.out HR.out
    obtain ⟨g, rfl, hgB, _⟩ := byO_someI hj (by omega)
    have HJC : Hid (L ≤ jc) := (byO_row hj).2.2
    have HJ3 : Hid (ByO w3 w2.heap.size (.slice (some ⟨g, 0, none⟩) L jc) P) := hj
    have HC3 : Hid (Chg (fun _ => False) w2 w3) := c3
    have HGB : Hid (w2.heap.size ≤ g) := hgB
    clear hj c3 hgB ho3 hg3 hm3 hown hsrc hB3 HCZ x0z x1z
    go_wp2_with fail
    go_loopw [8] (fun j wr => ∃ (i : Nat) (ls : List Nat), i ≤ 32 ∧ j = .int .i64 (i : Int) ∧ Hid (Cq.Turned P ls Z i (m % 2 ^ i)) ∧ Hid (∀ q, q < Z / 8 ∨ Z / 8 + 5 ≤ q → ls[q]? = P[q]?) ∧ Hid (ByO wr w2.heap.size (.slice (some ⟨g, 0, none⟩) L jc) ls) ∧ Hid (Chg (fun _ => False) w2 wr)) (fun j _ => 32 - (intOf j).toNat)
    case atStart => exact ⟨0, P, by omega, rfl, by show Cq.Turned _ _ _ _ _; rw [Nat.pow_zero, Nat.mod_one]; exact Cq.Turned.zero P HPD.out Z, fun q _ => rfl, HJ3.out, HC3.out⟩
    case round =>
      obtain ⟨i, ls, hi1, rfl, HU, HQ, HO, HC⟩ := hrel
      replace x0 := cell_chg x0 HC.out
      replace x1 := cell_chg x1 HC.out
      by_cases hlt : i < 32
      · have hbit := bit32 m i hm
        obtain ⟨K, hK⟩ : ∃ K : Nat, Z + i = K := ⟨_, rfl⟩
        have hKi : (Z : Int) + i = (K : Int) := by omega
        have HKZ : Hid (Z + i = K) := hK
        by_cases h1 : m / 2 ^ i % 2 = 1
        · rw [h1] at hbit
          by_cases hK2 : K < 8 * L
          · obtain ⟨p, hp⟩ : ∃ p : Nat, K / 8 = p := ⟨_, rfl⟩
            obtain ⟨r, hr⟩ : ∃ r : Nat, K % 8 = r := ⟨_, rfl⟩
            have hp1 : (K : Int) / 8 = (p : Int) := by omega
            have hr1 : (K : Int) % 8 = (r : Int) := by omega
            have hpn : p < L := by omega
            have hpz : Z / 8 ≤ p ∧ p < Z / 8 + 5 := by omega
            have hr8 : r < 8 := by omega
            have hw8 := Cq.wpow8 hr8
            have hy8 : 2 ^ r < 256 := Nat.pow_lt_pow_right (a := 2) (n := 8) (by decide) hr8
            have hll : ls.length = L := (byO_row HO.out).2.1
            obtain ⟨g', hg', _, hcf⟩ := byO_someI HO.out (by omega)
            simp only [Option.some.injEq, Addr.mk.injEq, and_true] at hg'
            obtain rfl := hg'
            obtain ⟨hcl, hfr⟩ := hcf p hpn
            have hz : ls.getD p 0 < 256 := by
              rw [List.getD_eq_getElem?_getD, List.getElem?_eq_getElem (by omega : p < ls.length)]
              exact HU.out.byt _ (List.getElem_mem _)
            have hxx := u8_xor_nat _ _ hz hy8
            have HF : Hid (Cq.Crc.flip ls (Z + i) = ls.set p (ls.getD p 0 ^^^ 2 ^ r)) := by
              show _ = _
              subst hp hr
              rw [hK]
              rfl
            have HO2 : Hid (ByO (wr.setCell ⟨g, p, none⟩ (.int .u8 ((ls.getD p 0 ^^^ 2 ^ r : Nat) : Int))) w2.heap.size (.slice (some ⟨g, 0, none⟩) L jc) (Cq.Crc.flip ls (Z + i))) := by
              show ByO _ _ _ _
              rw [HF.out]
              exact byO_setI HO.out hpn _
            have HC2' : Hid (Chg (fun _ => False) w2 (wr.setCell ⟨g, p, none⟩ (.int .u8 ((ls.getD p 0 ^^^ 2 ^ r : Nat) : Int)))) := Chg.setCell HC.out (.inr HGB.out) _
            have HU2 : Hid (Cq.Turned P (Cq.Crc.flip ls (Z + i)) Z (i + 1) (m % 2 ^ (i + 1))) := by
              show Cq.Turned _ _ _ _ _
              rw [← mod_turn h1]
              exact HU.out.turn (by rw [HL.out, hK]; exact hK2)
            have HQ2 : Hid (∀ q, q < Z / 8 ∨ Z / 8 + 5 ≤ q → (Cq.Crc.flip ls (Z + i))[q]? = P[q]?) := fun q hq => by
              rw [HF.out, List.getElem?_set_ne (by omega)]
              exact HQ.out q hq
            clear hcf HO HU HQ HF h1 hK hp hr HKZ hll hpz
            generalize ls.getD p 0 ^^^ 2 ^ r = t at *
            generalize ls.getD p 0 = z at *
            generalize 2 ^ r = y at *
            go_wp2_with fail
            go_region
            go_wp2
            go_roundw
            case rel => exact ⟨i + 1, _, by omega, by go_num, HU2, HQ2, HO2, HC2'.out.drew⟩
            case measure => simp [intOf]; omega
          · have HCK : Hid (Chg (fun _ => False) w0 wr) := chg_then HC2.out HC.out
            clear HU HQ HO h1 hK
            go_wp2_with fail
            refine Calls.mono (HK.out _ HCK.out) ?_
            rintro z w9 ⟨rfl, c9⟩
            have HC9 : Hid (Chg (fun _ => False) w0 w9) := chg_then HCK.out c9
            clear c9
            go_wp2
            go_ret
            exact ⟨rfl, HC9.out⟩
        · have h0 : m / 2 ^ i % 2 = 0 := by omega
          have HU2 : Hid (Cq.Turned P ls Z (i + 1) (m % 2 ^ (i + 1))) := by
            show Cq.Turned _ _ _ _ _
            rw [← mod_skip h0]
            exact HU.out.skip
          rw [h0] at hbit
          clear HU h1 h0 hK
          go_wp2
          go_roundw
          case rel => exact ⟨i + 1, ls, by omega, by go_num, HU2, HQ, HO, HC⟩
          case measure => simp [intOf]; omega
      · obtain rfl : i = 32 := by omega
        have hrow := (byO_row HO.out).1
        have HCK : Hid (Chg (fun _ => False) w0 wr) := chg_then HC2.out HC.out
        have hct : (ls.filter (fun x => decide (x < 128))).length ≤ 17592186044416 := by
          have h1 := Ix23.cnt_mid (p := P) (l := ls) (a := Z / 8) HU.out.len HQ.out
          have h2 := HCT.out HR.out
          unfold Ix23.cnt at h1 h2
          omega
        have HG : Hid _ := S.get (some ⟨g, 0, none⟩) L jc ls wr (S.keep HT.out HCK.out) hrow HU.out.byt HJC.out (by omega) (.inr hct)
        have htold := HTL.out HR.out ls Z _ HU.out (by
          rw [Nat.mod_eq_of_lt (by omega)]
          exact hm0)
        have herr := Ix23.getI_err ls
        obtain ⟨⟨gl, gn, ge⟩, hGe⟩ : ∃ x, Ix23.getI ls = x := ⟨_, rfl⟩
        rw [hGe] at HG htold herr
        simp only at HG htold herr
        clear hrow hct hGe HU HQ HO HC
        rcases herr with rfl | ⟨h3, rfl, rfl⟩
        · have hne := htold rfl
          have e1 : ((gn : Int) != (L : Int)) = true := by rw [bne_iff_ne]; omega
          clear htold hne
          go_wp2_with fail
          refine Calls.mono HG.out ?_
          rintro z w5 ⟨lv, rfl, hl, c5⟩
          have HC6 : Hid (Chg (fun _ => False) w0 w5) := chg_then HCK.out c5
          clear hl c5 HG
          go_wp2_with fail
          refine Calls.mono (num_q _ _) ?_
          rintro z w9 ⟨rfl, rfl⟩
          go_wp2_with fail
          refine Calls.mono (num_q _ _) ?_
          rintro z w9 ⟨rfl, rfl⟩
          go_wp2
          go_ret
          exact ⟨rfl, HC6.out⟩
        · have e1 : (ge != 0) = true := by rw [bne_iff_ne]; omega
          clear htold
          go_wp2_with fail
          refine Calls.mono HG.out ?_
          rintro z w5 ⟨lv, rfl, hl, c5⟩
          have HC6 : Hid (Chg (fun _ => False) w0 w5) := chg_then HCK.out c5
          clear hl c5 HG
          go_wp2_with fail
          refine Calls.mono (num_q _ _) ?_
          rintro z w9 ⟨rfl, rfl⟩
          go_wp2
          go_ret
          exact ⟨rfl, HC6.out⟩
  · go_wp2_with fail
    refine Calls.mono (num_q _ _) ?_
    rintro z w9 ⟨rfl, rfl⟩
    go_wp2_with fail
    refine Calls.mono (HK.out _ HC2.out) ?_
    rintro z w9 ⟨rfl, c9⟩
    have HC9 : Hid (Chg (fun _ => False) w0 w9) := chg_then HC2.out c9
    clear c9
    go_wp2
    go_ret
    exact ⟨rfl, HC9.out⟩
end Go.Proofs.YtehfcfpbjenmjaaDoor
