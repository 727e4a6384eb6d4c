/- The walk of HeadBursts; of no statement by itself. -/
import Derived.Test.YtkncbanodpfccaaDoorHdg
namespace Go.Proofs.YtkncbanodpfccaaDoor
open Go.RowKit
open St12
set_option linter.unusedVariables false
set_option linter.unusedSimpArgs false
theorem byO_setH {w : World} {B g n c : Nat} {bs : List Nat} (h : ByO w B (.slice (some ⟨g, 0, none⟩) n c) bs) {q : Nat} (hq : q < n) (x : Nat) : ByO (w.setCell ⟨g, q, none⟩ (.int .u8 (x : Int))) B (.slice (some ⟨g, 0, none⟩) n c) (bs.set q x) := by
  obtain ⟨_, hl, _⟩ := byO_row h
  unfold ByO at h ⊢
  rw [List.length_set]
  rw [hl] at h ⊢
  have := own_set h q (.int .u8 (x : Int)) hq
  rw [ins_set] at this
  rw [show nums (bs.set q x) = (nums bs).set q (x : Int) by simp [nums, List.map_set]]
  exact this
theorem byO_someH {w : World} {B n c : Nat} {a : Option Addr} {bs : List Nat} (h : ByO w B (.slice a n c) bs) (hn : 0 < n) : ∃ g, a = some ⟨g, 0, none⟩ ∧ B ≤ g ∧ (∀ q, q < n → w.cell? ⟨g, q, none⟩ = some (.int .u8 ((bs.getD q 0 : Nat) : Int)) ∧ w.frozen? ⟨g, q, none⟩ = false) := by
  obtain ⟨hr, hl, _⟩ := byO_row h
  have h2 := h
  unfold ByO at h2
  rw [hl] at h2
  obtain ⟨g', c', e3, _, _, _, _, hfr, _⟩ := own_some h2 (by omega)
  simp only [Value.slice.injEq] at e3
  obtain ⟨rfl, _, _⟩ := e3
  obtain ⟨b, off, e, hc⟩ := row8_at hr hn
  simp only [Option.some.injEq, Addr.mk.injEq] at e
  obtain ⟨rfl, rfl, _⟩ := e
  refine ⟨g', rfl, (World.ownsRow.lt h g' rfl).1, fun q hq => ⟨?_, hfr q⟩⟩
  have := hc q hq
  rwa [Nat.zero_add] at this
theorem bit32 (m i : Nat) (hm : m < 4294967296) : bits .and .u32 ((m : Int) / 2 ^ i) 1 = ((m / 2 ^ i % 2 : Nat) : Int) := by
  have e : ((m : Int) / 2 ^ i) = ((m / 2 ^ i : Nat) : Int) := by simp
  rw [e, show (1 : Int) = ((1 : Nat) : Int) from rfl, u32_and_nat _ 1 (Nat.lt_of_le_of_lt (Nat.div_le_self _ _) hm) (by decide)]
  congr 1
  exact Nat.and_one_is_mod _
theorem cells7h {w : World} {a : Nat} {x0 x1 x2 x3 x4 x5 x6 : Value} {t : TypeId} (h : w.heap[a]? = some (.cells #[x0, x1, x2, x3, x4, x5, x6] t (0, 0))) : w.cell? ⟨a, 0, none⟩ = some x0 ∧ w.cell? ⟨a, 1, none⟩ = some x1 ∧ w.cell? ⟨a, 2, none⟩ = some x2 ∧ w.cell? ⟨a, 3, none⟩ = some x3 ∧ w.cell? ⟨a, 4, none⟩ = some x4 ∧ w.cell? ⟨a, 5, none⟩ = some x5 ∧ w.cell? ⟨a, 6, none⟩ = some x6 :=
  ⟨by simp [World.cell?, h], by simp [World.cell?, h], by simp [World.cell?, h], by simp [World.cell?, h], by simp [World.cell?, h], by simp [World.cell?, h], by simp [World.cell?, h]⟩
theorem place21 (at_ : Int) (L : Nat) (h8 : 8 ≤ L) (hL : L ≤ 1024) : ∃ Z : Nat, wrap64 (8 + wrap64 ((IntKind.u64.wrap at_).tmod (8 * (L : Int) - 8))) = (Z : Int) ∧ 8 ≤ Z ∧ Z < 8 * L := by
  have e : IntKind.u64.wrap at_ = at_ % 18446744073709551616 := by simp [IntKind.wrap, IntKind.signed, IntKind.bits]
  rw [e]
  have h0 : 0 ≤ at_ % 18446744073709551616 := Int.emod_nonneg _ (by decide)
  generalize at_ % 18446744073709551616 = u at *
  rw [Int.tmod_eq_emod_of_nonneg h0]
  have h1 := Int.emod_nonneg u (show (8 * (L : Int) - 8) ≠ 0 by omega)
  have h2 := Int.emod_lt_of_pos u (show 0 < (8 * (L : Int) - 8) by omega)
  generalize u % (8 * (L : Int) - 8) = r at *
  refine ⟨(8 + r).toNat, ?_, by omega, by omega⟩
  unfold wrap64
  omega
variable {Tab : World → Prop}
set_option maxHeartbeats 16000000 in
set_option maxRecDepth 100000 in
theorem bursts21_any (S : HeadSpec Tab) (pk sz by_ pad at_ : Int) (m : Nat) (fa : Option Addr) (fn fc : Nat) (l : List FlV) (w0 : World) (hT : Tab w0) (i1 : I64 pk) (i2 : I64 sz) (i3 : I64 by_) (i4 : I64 pad) (i5 : I64 at_) (hm : m < 4294967296) (hf : FlL w0 fa l) (hfl : l.length = fn) (hfc : fn ≤ fc) (hfn : fn ≤ 1048576) (hxn : ∀ (k : Nat) (x : FlV), l[k]? = some x → x.n ≤ 1048576) : Calls Tryd.prog 5 #[.agg #[.int .i64 pk, .int .i64 sz, .slice fa fn fc, .int .i64 by_, .int .i64 pad, .int .i64 at_, .int .u32 (m : Int)]] w0 fun e w' => e = .returned (.bool true) ∧ Chg (fun _ => False) w0 w' := by
  have HT : Hid (Tab w0) := hT
  have HK : Hid (∀ ww, Chg (fun _ => False) w0 ww → Calls Tryd.prog 9 #[] ww fun e w' => e = .returned (.bool true) ∧ Chg (fun _ => False) ww w') := fun ww hc => fixed21_any S ww (S.keep HT.out hc)
  have cA := chg_one w0 (.cells #[.int .i64 pk, .int .i64 sz, .slice fa fn fc, .int .i64 by_, .int .i64 pad, .int .i64 at_, .int .u32 (m : Int)] 40)
  have bA := heap_alloc_last w0 (.cells #[.int .i64 pk, .int .i64 sz, .slice fa fn fc, .int .i64 by_, .int .i64 pad, .int .i64 at_, .int .u32 (m : Int)] 40)
  obtain ⟨x0, x1, x2, x3, x4, x5, x6⟩ := cells7h bA
  have HCA : Hid (Chg (fun _ => False) w0 (w0.alloc (.cells #[.int .i64 pk, .int .i64 sz, .slice fa fn fc, .int .i64 by_, .int .i64 pad, .int .i64 at_, .int .u32 (m : Int)] 40))) := cA
  have HP : Hid _ := S.put pk sz by_ pad fa fn fc l _ (S.keep hT cA) i1 i2 i3 i4 (hf.new cA) hfl hfc hfn hxn
  have hpe := Hd21.putH_e ⟨pk, sz, l.map FlV.f, by_⟩ pad
  have HHD : Hid (∀ f ∈ l.map FlV.f, Rc.Dig f.ps ∧ f.ps.length ≤ 9223372036854775807) := fun f hff => by
    obtain ⟨x, hx, rfl⟩ := List.mem_map.1 hff
    obtain ⟨k, hk⟩ := List.getElem?_of_mem hx
    have h1 := (hf k x hk).1
    have h2 := h1.len
    have h3 := hxn k x hk
    exact ⟨h1.dig, by show x.bs.length ≤ _; omega⟩
  have HI : Hid (I64 pk ∧ I64 sz) := ⟨i1, i2⟩
  obtain ⟨ia, ib⟩ := i5
  unfold hdv at HP
  obtain ⟨P, er, hPe⟩ : ∃ P e, Hd21.putH ⟨pk, sz, l.map FlV.f, by_⟩ pad = (P, e) := ⟨_, _, rfl⟩
  rw [hPe] at HP hpe
  simp only at HP hpe
  have HPE : Hid (Hd21.putH ⟨pk, sz, l.map FlV.f, by_⟩ pad = (P, er)) := hPe
  have HER : Hid (er = Hd21.putE ⟨pk, sz, l.map FlV.f, by_⟩ pad) := hpe.1
  obtain ⟨L, hL⟩ : ∃ L, P.length = L := ⟨_, rfl⟩
  have HL : Hid (P.length = L) := hL
  clear hT i1 i2 i3 i4 hf hfl hxn cA bA hpe hPe hL
  go_enter Tryd.func5, Tryd.ntmps5
  go_upto_region 1 with fail
  generalize w0.alloc (.cells #[.int .i64 pk, .int .i64 sz, .slice fa fn fc, .int .i64 by_, .int .i64 pad, .int .i64 at_, .int .u32 (m : Int)] 40) = w1 at *
  generalize w0.heap.size = xb at *
  go_wp2_with fail
  refine Calls.mono HP.out ?_
  rintro z w2 ⟨ov, rfl, ho, c2⟩
  obtain ⟨oa, oc, rfl⟩ := byO_form ho
  rw [HL.out] at ho ⊢
  have HC2 : Hid (Chg (fun _ => False) w0 w2) := chg_then HCA.out c2
  replace x5 := cell_chg x5 c2
  replace x6 := cell_chg x6 c2
  have HRP : Hid (Row8 w2 oa L oc (nums P)) := (byO_row ho).1
  clear ho c2 HP HCA x0 x1 x2 x3 x4
  by_cases her : er = 0
  · subst her
    have HE0 : Hid (Hd21.putE ⟨pk, sz, l.map FlV.f, by_⟩ pad = 0) := HER.out.symm
    have hbi := Hd21.body_is HE0.out
    have hlen := Hd21.putH_len HE0.out
    obtain ⟨hs1, hs2, _⟩ := Hd21.size_body HE0.out []
    rw [List.append_nil, HPE.out] at hs1 hs2
    rw [HPE.out] at hlen
    simp only at hs1 hs2 hlen
    unfold Hd21.size at hs1
    rw [HL.out] at hlen hs1
    obtain ⟨B0, hB0⟩ : ∃ B0, P.getD 0 0 = B0 := ⟨_, rfl⟩
    rw [hB0] at hs1
    have hL8 : 8 ≤ L ∧ L ≤ 1024 := by omega
    have hL8i : (8 : Int) ≤ (L : Int) := by omega
    have hLi : (L : Int) ≤ 1024 := by omega
    have e1 : decide ((L : Int) < 8) = false := decide_eq_false (by omega)
    have e1' : decide (L < 8) = false := decide_eq_false (by omega)
    clear hbi hlen hs1 hs2 hB0
    have HJ : Hid _ := joined21_any oa none L 0 oc 0 P [] w2 HRP.out ⟨rfl, .inl ⟨rfl, rfl, rfl⟩⟩ (by omega)
    rw [List.append_nil, Nat.add_zero] at HJ
    have HPD : Hid (Rc.Dig P) := by
      have := Hd21.putH_dig (h := ⟨pk, sz, l.map FlV.f, by_⟩) (pad := pad) (fun f hff => (HHD.out f hff).1)
      rw [HPE.out] at this
      exact this
    clear HRP HER
    go_upto_region 4 with fail
    go_upto_region 5 with fail
    obtain ⟨Z, hZ, hZ8, hZL⟩ := place21 at_ L hL8.1 hL8.2
    rw [hZ]
    clear hZ
    have hzi : (Z : Int) < 8 * (L : Int) := by omega
    go_wp2_with fail
    refine Calls.mono HJ.out ?_
    rintro z w3 ⟨ja, jc, rfl, hj, c3⟩
    obtain ⟨g, rfl, hgB, _⟩ := byO_someH hj (by omega)
    have HJC : Hid (L ≤ jc) := (byO_row hj).2.2
    have HJ3 : Hid (ByO w3 w2.heap.size (.slice (some ⟨g, 0, none⟩) L jc) P) := hj
    have HC3 : Hid (Chg (fun _ => False) w2 w3) := c3
    have HGB : Hid (w2.heap.size ≤ g) := hgB
    clear hj c3 HJ hgB
    go_wp2_with fail
    go_loopw [7, 8] (fun q j wr => ∃ (i k : Nat) (ls : List Nat) (M : Nat), i ≤ 32 ∧ j = .int .i64 (i : Int) ∧ q = .int .i64 (k : Int) ∧ k ≤ i ∧ Hid (k = 0 ↔ M = 0) ∧ Hid (Cq.Turned P ls Z i M) ∧ Hid (ls.getD 0 0 = P.getD 0 0) ∧ Hid (M = 0 → ls = P) ∧ Hid (ByO wr w2.heap.size (.slice (some ⟨g, 0, none⟩) L jc) ls) ∧ Hid (Chg (fun _ => False) w2 wr)) (fun _ j _ => 32 - (intOf j).toNat)
    case atStart => exact ⟨0, 0, P, 0, by omega, rfl, rfl, by omega, ⟨fun _ => rfl, fun _ => rfl⟩, Cq.Turned.zero P HPD.out Z, rfl, fun _ => rfl, HJ3.out, HC3.out⟩
    case round =>
      obtain ⟨i, k, ls, M, hi1, rfl, rfl, hki, HQ, HU, H0, HM, HO, HC⟩ := hrel
      replace x6 := cell_chg x6 HC.out
      by_cases hlt : i < 32
      · have hbit := bit32 m i hm
        obtain ⟨K, hK⟩ : ∃ K : Nat, Z + i = K := ⟨_, rfl⟩
        have hKi : (Z : Int) + i = (K : Int) := by omega
        have hK8 : 8 ≤ K := by omega
        have HKZ : Hid (Z + i = K) := hK
        by_cases hone : m / 2 ^ i % 2 = 1 ∧ K < 8 * L
        · obtain ⟨ho1, ho2⟩ := hone
          rw [ho1] at hbit
          obtain ⟨p, hp⟩ : ∃ p : Nat, K / 8 = p := ⟨_, rfl⟩
          obtain ⟨r, hr⟩ : ∃ r : Nat, K % 8 = r := ⟨_, rfl⟩
          have hp1 : (K : Int) / 8 = (p : Int) := by omega
          have hr1 : (K : Int) % 8 = (r : Int) := by omega
          have hpn : p < L := by omega
          have hp0 : 0 < p := by omega
          have hr8 : r < 8 := by omega
          have hw8 := Cq.wpow8 hr8
          have hy8 : 2 ^ r < 256 := Nat.pow_lt_pow_right (a := 2) (n := 8) (by decide) hr8
          have hll : ls.length = L := (byO_row HO.out).2.1
          obtain ⟨g', hg', _, hcf⟩ := byO_someH HO.out (by omega)
          simp only [Option.some.injEq, Addr.mk.injEq, and_true] at hg'
          obtain rfl := hg'
          obtain ⟨hcl, hfr⟩ := hcf p hpn
          have hz : ls.getD p 0 < 256 := by
            rw [List.getD_eq_getElem?_getD, List.getElem?_eq_getElem (by omega : p < ls.length)]
            exact HU.out.byt _ (List.getElem_mem _)
          have hxx := u8_xor_nat _ _ hz hy8
          have HF : Hid (Cq.Crc.flip ls (Z + i) = ls.set p (ls.getD p 0 ^^^ 2 ^ r)) := by
            show _ = _
            subst hp hr
            rw [hK]
            rfl
          have HO2 : Hid (ByO (wr.setCell ⟨g, p, none⟩ (.int .u8 ((ls.getD p 0 ^^^ 2 ^ r : Nat) : Int))) w2.heap.size (.slice (some ⟨g, 0, none⟩) L jc) (Cq.Crc.flip ls (Z + i))) := by
            show ByO _ _ _ _
            rw [HF.out]
            exact byO_setH HO.out hpn _
          have HC2' : Hid (Chg (fun _ => False) w2 (wr.setCell ⟨g, p, none⟩ (.int .u8 ((ls.getD p 0 ^^^ 2 ^ r : Nat) : Int)))) := Chg.setCell HC.out (.inr HGB.out) _
          have HU2 : Hid (Cq.Turned P (Cq.Crc.flip ls (Z + i)) Z (i + 1) (M ^^^ 2 ^ i)) := HU.out.turn (by rw [HL.out, hK]; exact ho2)
          have HQ2 : Hid (k + 1 = 0 ↔ M ^^^ 2 ^ i = 0) := ⟨fun e => by omega, fun e => (Cq.xor_pow_ne HU.out.small e).elim⟩
          have HM2 : Hid (M ^^^ 2 ^ i = 0 → Cq.Crc.flip ls (Z + i) = P) := fun e => (Cq.xor_pow_ne HU.out.small e).elim
          have H02 : Hid ((Cq.Crc.flip ls (Z + i)).getD 0 0 = P.getD 0 0) := by
            show _ = _
            rw [HF.out, ← H0.out]
            simp only [List.getD_eq_getElem?_getD]
            rw [List.getElem?_set_ne (by omega)]
          clear hcf HO HU HQ HF ho1 hK hp hr HKZ hll
          generalize ls.getD p 0 ^^^ 2 ^ r = t at *
          generalize ls.getD p 0 = z at *
          generalize 2 ^ r = y at *
          go_wp2_with fail
          go_region
          go_wp2
          go_roundw
          case rel => exact ⟨i + 1, k + 1, _, _, by omega, by go_num, by go_num, by omega, HQ2, HU2, H02, HM2, HO2, HC2'.out.drew⟩
          case measure => simp [intOf]; omega
        · have HU2 : Hid (Cq.Turned P ls Z (i + 1) M) := HU.out.skip
          by_cases h1 : m / 2 ^ i % 2 = 1
          · rw [h1] at hbit
            have hK2 : ¬ K < 8 * L := fun h => hone ⟨h1, h⟩
            clear hone HU h1 hK
            go_wp2
            go_roundw
            case rel => exact ⟨i + 1, k, ls, M, by omega, by go_num, rfl, by omega, HQ, HU2, H0, HM, HO, HC⟩
            case measure => simp [intOf]; omega
          · have h0 : m / 2 ^ i % 2 = 0 := by omega
            rw [h0] at hbit
            clear hone HU h1 h0 hK
            go_wp2
            go_roundw
            case rel => exact ⟨i + 1, k, ls, M, by omega, by go_num, rfl, by omega, HQ, HU2, H0, HM, HO, HC⟩
            case measure => simp [intOf]; omega
      · obtain rfl : i = 32 := by omega
        have HD : Hid (decide (0 < (k : Int)) = decide (M ≠ 0)) := by
          have := HQ.out
          exact decide_eq_decide.2 ⟨fun h e => by have := HQ.out.2 e; omega, fun h => by
            have : k ≠ 0 := fun e => h (HQ.out.1 e)
            omega⟩
        have hrow := (byO_row HO.out).1
        have HG : Hid _ := S.get (some ⟨g, 0, none⟩) L jc ls wr (S.keep HT.out (chg_then HC2.out HC.out)) hrow HU.out.byt HJC.out (by omega)
        have hbt : ((Hd21.getH ls).2 = 3) ↔ M ≠ 0 := by
          have h5 := Hd21.burst_told HE0.out (by have := HI.out.2; unfold I64 at this; simp only; omega) (by have := HI.out.1; unfold I64 at this; simp only; omega) (fun f hff => (HHD.out f hff).2) (fun f hff => (HHD.out f hff).1) (l := ls) (at_ := Z) (M := M) (by rw [HPE.out]; exact HU.out) (by rw [HPE.out]; exact H0.out) (by rw [HPE.out]; exact HM.out)
          exact h5
        unfold hdv at HG
        obtain ⟨⟨gpk, gsz, gfs, gby⟩, ge, hGe⟩ : ∃ h e, Hd21.getH ls = (h, e) := ⟨_, _, rfl⟩
        rw [hGe] at HG hbt
        simp only at HG hbt
        have z2 : (ge == 3) = decide (M ≠ 0) := by
          by_cases hM : M = 0
          · rw [decide_eq_false (by simpa using hM)]
            exact beq_eq_false_iff_ne.2 (fun e => hbt.1 e hM)
          · rw [decide_eq_true hM]
            exact beq_iff_eq.2 (hbt.2 hM)
        have z3 := HD.out
        have z5 : decide (0 < k) = decide (M ≠ 0) := by rw [← HD.out]; exact decide_eq_decide.2 (by omega)
        clear hrow hbt hGe HQ HU H0 HM HO HD HPD HHD HI HE0 HPE
        generalize decide (M ≠ 0) = d at *
        have z4 : (d == d) = true := by simp
        go_wp2_with fail
        refine Calls.mono HG.out ?_
        rintro z w5 ⟨ga, gn, gc, gl, rfl, _, _, _, _, _, c5⟩
        have HC6 : Hid (Chg (fun _ => False) w0 (w5.alloc (.cells #[.int .i64 gpk, .int .i64 gsz, .slice ga gn gc, .int .i64 gby] 24))) := chg_then HC2.out (chg_then HC.out (chg_then c5 (chg_one w5 _)))
        clear c5 HG HC
        go_upto_region 15 with fail
        generalize w5.alloc (.cells #[.int .i64 gpk, .int .i64 gsz, .slice ga gn gc, .int .i64 gby] 24) = w6 at *
        go_wp2_with fail
        refine Calls.mono (HK.out w6 HC6.out) ?_
        rintro z w7 ⟨rfl, c7⟩
        have HC7 : Hid (Chg (fun _ => False) w0 w7) := chg_then HC6.out c7
        go_wp2
        go_ret
        exact ⟨rfl, HC7.out⟩
  · have z1 : (er != 0) = true := by simpa using her
    clear her
    go_wp2_with fail
    refine Calls.mono (HK.out w2 HC2.out) ?_
    rintro z w3 ⟨rfl, c3⟩
    have HC3 : Hid (Chg (fun _ => False) w0 w3) := chg_then HC2.out c3
    go_wp2
    go_ret
    exact ⟨rfl, HC3.out⟩
end Go.Proofs.YtkncbanodpfccaaDoor
