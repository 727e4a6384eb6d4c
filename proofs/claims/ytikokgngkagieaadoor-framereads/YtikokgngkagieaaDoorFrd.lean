/- The walk of FrameBursts above what is asked of frame; of no statement by itself. -/
import Derived.Test.YtikokgngkagieaaDoorFrc
namespace Go.Proofs.YtikokgngkagieaaDoor
open Go.RowKit
set_option linter.unusedVariables false
set_option linter.unusedSimpArgs false
theorem byO_setF {w : World} {B g n c : Nat} {bs : List Nat} (h : ByO w B (.slice (some ⟨g, 0, none⟩) n c) bs) {q : Nat} (hq : q < n) (x : Nat) : ByO (w.setCell ⟨g, q, none⟩ (.int .u8 (x : Int))) B (.slice (some ⟨g, 0, none⟩) n c) (bs.set q x) := by
  obtain ⟨_, hl, _⟩ := byO_row h
  unfold ByO at h ⊢
  rw [List.length_set]
  rw [hl] at h ⊢
  have := own_set h q (.int .u8 (x : Int)) hq
  rw [ins_set] at this
  rw [show nums (bs.set q x) = (nums bs).set q (x : Int) by simp [nums, List.map_set]]
  exact this
theorem byO_someF {w : World} {B n c : Nat} {a : Option Addr} {bs : List Nat} (h : ByO w B (.slice a n c) bs) (hn : 0 < n) : ∃ g, a = some ⟨g, 0, none⟩ ∧ B ≤ g ∧ (∀ q, q < n → w.cell? ⟨g, q, none⟩ = some (.int .u8 ((bs.getD q 0 : Nat) : Int)) ∧ w.frozen? ⟨g, q, none⟩ = false) := by
  obtain ⟨hr, hl, _⟩ := byO_row h
  have h2 := h
  unfold ByO at h2
  rw [hl] at h2
  obtain ⟨g', c', e3, _, _, _, _, hfr, _⟩ := own_some h2 (by omega)
  simp only [Value.slice.injEq] at e3
  obtain ⟨rfl, _, _⟩ := e3
  obtain ⟨b, off, e, hc⟩ := row8_at hr hn
  simp only [Option.some.injEq, Addr.mk.injEq] at e
  obtain ⟨rfl, rfl, _⟩ := e
  refine ⟨g', rfl, (World.ownsRow.lt h g' rfl).1, fun q hq => ⟨?_, hfr q⟩⟩
  have := hc q hq
  rwa [Nat.zero_add] at this
theorem bit32F (m i : Nat) (hm : m < 4294967296) : bits .and .u32 ((m : Int) / 2 ^ i) 1 = ((m / 2 ^ i % 2 : Nat) : Int) := by
  have e : ((m : Int) / 2 ^ i) = ((m / 2 ^ i : Nat) : Int) := by simp
  rw [e, show (1 : Int) = ((1 : Nat) : Int) from rfl, u32_and_nat _ 1 (Nat.lt_of_le_of_lt (Nat.div_le_self _ _) hm) (by decide)]
  congr 1
  exact Nat.and_one_is_mod _
theorem cells4F {w : World} {a : Nat} {x0 x1 x2 x3 : Value} {t : TypeId} (h : w.heap[a]? = some (.cells #[x0, x1, x2, x3] t (0, 0))) : w.cell? ⟨a, 0, none⟩ = some x0 ∧ w.cell? ⟨a, 1, none⟩ = some x1 ∧ w.cell? ⟨a, 2, none⟩ = some x2 ∧ w.cell? ⟨a, 3, none⟩ = some x3 :=
  ⟨by simp [World.cell?, h], by simp [World.cell?, h], by simp [World.cell?, h], by simp [World.cell?, h]⟩
theorem place96 (at_ : Int) : ∃ Z : Nat, wrap64 ((IntKind.u64.wrap at_).tmod 96) = (Z : Int) ∧ Z < 96 := by
  have e : IntKind.u64.wrap at_ = at_ % 18446744073709551616 := by simp [IntKind.wrap, IntKind.signed, IntKind.bits]
  rw [e]
  have h0 : 0 ≤ at_ % 18446744073709551616 := Int.emod_nonneg _ (by decide)
  generalize at_ % 18446744073709551616 = u at *
  rw [Int.tmod_eq_emod_of_nonneg h0]
  have h1 := Int.emod_nonneg u (show (96 : Int) ≠ 0 by omega)
  have h2 := Int.emod_lt_of_pos u (show (0 : Int) < 96 by omega)
  generalize u % 96 = r at *
  refine ⟨r.toNat, ?_, by omega⟩
  unfold wrap64
  omega
set_option maxHeartbeats 16000000 in
set_option maxRecDepth 100000 in
theorem burst24_any (ad : Option Addr) (c Z E m : Nat) (P : List Nat) (w0 : World) (h : Row8 w0 ad 12 c (nums P)) (hd : Rc.Dig P) (hc : 12 ≤ c) (hE : E ≤ 96) (hZ : Z < 96) (hm : m < 4294967296) : Calls Tryd.prog 14 #[.slice ad 12 c, .int .i64 (Z : Int), .int .u32 (m : Int), .int .i64 (E : Int)] w0 fun e w' => ∃ (g jc k : Nat) (ls : List Nat) (M : Nat), e = .returned (.tuple #[.slice (some ⟨g, 0, none⟩) 12 jc, .int .i64 (k : Int)]) ∧ 12 ≤ jc ∧ Row8 w' (some ⟨g, 0, none⟩) 12 jc (nums ls) ∧ k ≤ 32 ∧ (k = 0 ↔ M = 0) ∧ (M = 0 → ls = P) ∧ Cq.Turned P ls Z 32 M ∧ (∀ q, q < Z / 8 ∨ (E + 7) / 8 ≤ q → ls[q]? = P[q]?) ∧ Chg (fun _ => False) w0 w' := by
  have HPD : Hid (Rc.Dig P) := hd
  have HL : Hid (P.length = 12) := by have h9 := h.1; rw [nums_len] at h9; exact h9
  have HJ : Hid _ := joined_any ad none 12 c 0 0 P [] w0 h (row8_nil _) (by omega)
  rw [List.append_nil, Nat.add_zero] at HJ
  have hEi : (E : Int) ≤ 96 := by omega
  have hZi : (Z : Int) < 96 := by omega
  clear h hd hc
  go_enter Tryd.func14, Tryd.ntmps14
  go_wp2_with fail
  refine Calls.mono HJ.out ?_
  rintro z w3 ⟨ja, jc, rfl, hj, c3⟩
  obtain ⟨g, rfl, hgB, _⟩ := byO_someF hj (by omega)
  have HJC : Hid (12 ≤ jc) := (byO_row hj).2.2
  have HJ3 : Hid (ByO w3 w0.heap.size (.slice (some ⟨g, 0, none⟩) 12 jc) P) := hj
  have HC3 : Hid (Chg (fun _ => False) w0 w3) := c3
  have HGB : Hid (w0.heap.size ≤ g) := hgB
  clear hj c3 HJ hgB
  go_wp2_with fail
  go_loopw [11, 12] (fun q j wr => ∃ (i k : Nat) (ls : List Nat) (M : Nat), i ≤ 32 ∧ j = .int .i64 (i : Int) ∧ q = .int .i64 (k : Int) ∧ k ≤ i ∧ Hid (k = 0 ↔ M = 0) ∧ Hid (Cq.Turned P ls Z i M) ∧ Hid (∀ q, q < Z / 8 ∨ (E + 7) / 8 ≤ q → ls[q]? = P[q]?) ∧ Hid (M = 0 → ls = P) ∧ Hid (ByO wr w0.heap.size (.slice (some ⟨g, 0, none⟩) 12 jc) ls) ∧ Hid (Chg (fun _ => False) w0 wr)) (fun _ j _ => 32 - (intOf j).toNat)
  case atStart => exact ⟨0, 0, P, 0, by omega, rfl, rfl, by omega, ⟨fun _ => rfl, fun _ => rfl⟩, Cq.Turned.zero P HPD.out Z, fun q _ => rfl, fun _ => rfl, HJ3.out, HC3.out⟩
  case round =>
    obtain ⟨i, k, ls, M, hi1, rfl, rfl, hki, HQ, HU, H0, HM, HO, HC⟩ := hrel
    by_cases hlt : i < 32
    · have hbit := bit32F m i hm
      obtain ⟨K, hK⟩ : ∃ K : Nat, Z + i = K := ⟨_, rfl⟩
      have hKi : (Z : Int) + i = (K : Int) := by omega
      have HKZ : Hid (Z + i = K) := hK
      by_cases hone : m / 2 ^ i % 2 = 1 ∧ K < E
      · obtain ⟨ho1, ho2⟩ := hone
        rw [ho1] at hbit
        obtain ⟨p, hp⟩ : ∃ p : Nat, K / 8 = p := ⟨_, rfl⟩
        obtain ⟨r, hr⟩ : ∃ r : Nat, K % 8 = r := ⟨_, rfl⟩
        have hp1 : (K : Int) / 8 = (p : Int) := by omega
        have hr1 : (K : Int) % 8 = (r : Int) := by omega
        have hpn : p < 12 := by omega
        have hpz : Z / 8 ≤ p ∧ p < (E + 7) / 8 := by omega
        have hr8 : r < 8 := by omega
        have hw8 := Cq.wpow8 hr8
        have hy8 : 2 ^ r < 256 := Nat.pow_lt_pow_right (a := 2) (n := 8) (by decide) hr8
        have hll : ls.length = 12 := (byO_row HO.out).2.1
        obtain ⟨g', hg', _, hcf⟩ := byO_someF HO.out (by omega)
        simp only [Option.some.injEq, Addr.mk.injEq, and_true] at hg'
        obtain rfl := hg'
        obtain ⟨hcl, hfr⟩ := hcf p hpn
        have hz : ls.getD p 0 < 256 := by
          rw [List.getD_eq_getElem?_getD, List.getElem?_eq_getElem (by omega : p < ls.length)]
          exact HU.out.byt _ (List.getElem_mem _)
        have hxx := u8_xor_nat _ _ hz hy8
        have HF : Hid (Cq.Crc.flip ls (Z + i) = ls.set p (ls.getD p 0 ^^^ 2 ^ r)) := by
          show _ = _
          subst hp hr
          rw [hK]
          rfl
        have HO2 : Hid (ByO (wr.setCell ⟨g, p, none⟩ (.int .u8 ((ls.getD p 0 ^^^ 2 ^ r : Nat) : Int))) w0.heap.size (.slice (some ⟨g, 0, none⟩) 12 jc) (Cq.Crc.flip ls (Z + i))) := by
          show ByO _ _ _ _
          rw [HF.out]
          exact byO_setF HO.out hpn _
        have HC2' : Hid (Chg (fun _ => False) w0 (wr.setCell ⟨g, p, none⟩ (.int .u8 ((ls.getD p 0 ^^^ 2 ^ r : Nat) : Int)))) := Chg.setCell HC.out (.inr HGB.out) _
        have HU2 : Hid (Cq.Turned P (Cq.Crc.flip ls (Z + i)) Z (i + 1) (M ^^^ 2 ^ i)) := HU.out.turn (by rw [HL.out, hK]; omega)
        have HQ2 : Hid (k + 1 = 0 ↔ M ^^^ 2 ^ i = 0) := ⟨fun e => by omega, fun e => (Cq.xor_pow_ne HU.out.small e).elim⟩
        have HM2 : Hid (M ^^^ 2 ^ i = 0 → Cq.Crc.flip ls (Z + i) = P) := fun e => (Cq.xor_pow_ne HU.out.small e).elim
        have H02 : Hid (∀ q, q < Z / 8 ∨ (E + 7) / 8 ≤ q → (Cq.Crc.flip ls (Z + i))[q]? = P[q]?) := fun q hq => by
          rw [HF.out, List.getElem?_set_ne (by omega)]
          exact H0.out q hq
        clear hcf HO HU HQ HF ho1 hK hp hr HKZ hll hpz
        generalize ls.getD p 0 ^^^ 2 ^ r = t at *
        generalize ls.getD p 0 = z at *
        generalize 2 ^ r = y at *
        go_wp2_with fail
        go_region
        go_wp2
        go_roundw
        case rel => exact ⟨i + 1, k + 1, _, _, by omega, by go_num, by go_num, by omega, HQ2, HU2, H02, HM2, HO2, HC2'.out.drew⟩
        case measure => simp [intOf]; omega
      · have HU2 : Hid (Cq.Turned P ls Z (i + 1) M) := HU.out.skip
        by_cases h1 : m / 2 ^ i % 2 = 1
        · rw [h1] at hbit
          have hK2 : ¬ K < E := fun h => hone ⟨h1, h⟩
          clear hone HU h1 hK
          go_wp2
          go_roundw
          case rel => exact ⟨i + 1, k, ls, M, by omega, by go_num, rfl, by omega, HQ, HU2, H0, HM, HO, HC⟩
          case measure => simp [intOf]; omega
        · have h0 : m / 2 ^ i % 2 = 0 := by omega
          rw [h0] at hbit
          clear hone HU h1 h0 hK
          go_wp2
          go_roundw
          case rel => exact ⟨i + 1, k, ls, M, by omega, by go_num, rfl, by omega, HQ, HU2, H0, HM, HO, HC⟩
          case measure => simp [intOf]; omega
    · obtain rfl : i = 32 := by omega
      go_wp2
      go_ret2
      exact ⟨g, jc, k, ls, M, rfl, HJC.out, (byO_row HO.out).1, hki, HQ.out, HM.out, HU.out, H0.out, HC.out⟩
theorem rfoot_any_told {k n : Nat} (hk : Fr24.kind (k : Int) = true) (hn : 4 ≤ n) (hn2 : n ≤ 17179869184) (h4 : n % 4 = 0) {l : List Nat} {Z E M : Nat} (hE : Z < 32 ∧ E = 32 ∨ 32 ≤ Z ∧ E = 80 ∨ 80 ≤ Z ∧ E = 96) (ht : Cq.Turned (Fr24.footB k n) l Z 32 M) (hq : ∀ q, q < Z / 8 ∨ (E + 7) / 8 ≤ q → l[q]? = (Fr24.footB k n)[q]?) (hM : M = 0 → l = Fr24.footB k n) : (Fr24.rfootF l).2.2 = 0 ↔ M = 0 := by
  refine ⟨fun h => Fr24.rfoot_told hk ht ?_ h, fun h => ?_⟩
  · rcases hE with ⟨h1, rfl⟩ | ⟨h1, rfl⟩ | ⟨h1, rfl⟩
    · exact .inl fun q h => hq q (by omega)
    · exact .inr (.inl fun q h => hq q (by omega))
    · exact .inr (.inr fun q h => hq q (by omega))
  · rw [hM h, ← List.append_nil (Fr24.footB k n), Fr24.rfoot_back hk hn hn2 h4]
theorem rhead_any_told {k : Nat} (hk : Fr24.kind (k : Int) = true) {l : List Nat} {Z M : Nat} (ht : Cq.Turned (Fr24.headB k) l Z 32 M) (hM : M = 0 → l = Fr24.headB k) : (Fr24.rheadF l).2 = 0 ↔ M = 0 := by
  refine ⟨fun h => Fr24.rhead_told hk ht h, fun h => ?_⟩
  rw [hM h, ← List.append_nil (Fr24.headB k), Fr24.rhead_back hk]
variable {Tab : World → Prop}
set_option maxHeartbeats 16000000 in
set_option maxRecDepth 100000 in
theorem bursts24_any (S : FrameSpec Tab) (kn qn at_ : Int) (m : Nat) (w00 : World) (hT : Tab w00) (hm : m < 4294967296) : Calls Tryd.prog 4 #[.agg #[.int .i64 kn, .int .i64 qn, .int .i64 at_, .int .u32 (m : Int)]] w00 fun e w' => e = .returned (.bool true) ∧ Chg (fun _ => False) w00 w' := by
  have HFX : Hid (∀ w, Chg (fun _ => False) w00 w → Calls Tryd.prog 10 #[] w fun e w' => e = .returned (.bool true) ∧ Chg (fun _ => False) w w') := fun w hw => fixed24_any S w (S.keep hT hw)
  have HT : Hid (Tab w00) := hT
  have cA := chg_one w00 (.cells #[.int .i64 kn, .int .i64 qn, .int .i64 at_, .int .u32 (m : Int)] 38)
  have bA := heap_alloc_last w00 (.cells #[.int .i64 kn, .int .i64 qn, .int .i64 at_, .int .u32 (m : Int)] 38)
  obtain ⟨x0, x1, x2, x3⟩ := cells4F bA
  have HCA : Hid (Chg (fun _ => False) w00 (w00.alloc (.cells #[.int .i64 kn, .int .i64 qn, .int .i64 at_, .int .u32 (m : Int)] 38))) := cA
  have hkk := kd_kind kn
  have HK : Hid (∀ w, Calls Tryd.prog 7 #[.int .i64 kn] w fun e w' => e = .returned (.int .i64 (kd kn : Int)) ∧ Chg (fun _ => False) w w') := fun w => kinds_any kn w
  obtain ⟨k, hk⟩ : ∃ k, kd kn = k := ⟨_, rfl⟩
  rw [hk] at HK hkk
  have HKK : Hid (Fr24.kind (k : Int) = true) := hkk
  have hkl := Fr24.kind_lt hkk
  obtain ⟨q1, q2, q3, q4⟩ := qt_is qn
  obtain ⟨n, hn⟩ : ∃ n, qt qn = n := ⟨_, rfl⟩
  rw [hn] at q1 q2 q3 q4
  obtain ⟨U, hU⟩ : ∃ u, IntKind.u64.wrap qn = u := ⟨_, rfl⟩
  rw [hU] at q4
  obtain ⟨V, hV⟩ : ∃ v, U % 4294967296 = v := ⟨_, rfl⟩
  rw [hV] at q4
  have HUV : Hid ((IntKind.u64.wrap qn).tmod 4294967296 = V) := by
    have e : IntKind.u64.wrap qn = qn % 18446744073709551616 := by simp [IntKind.wrap, IntKind.signed, IntKind.bits]
    show _ = _
    rw [Int.tmod_eq_emod_of_nonneg (by rw [e]; omega), hU, hV]
  have HW1 : Hid (wrap64 V = V) := wr64n (by omega) (by omega)
  have HW2 : Hid (wrap64 (4 * wrap64 (1 + V)) = (n : Int)) := by
    show _ = _
    rw [wr64n (n := 1 + V) (by omega) (by omega), wr64n (n := 4 * (1 + V)) (by omega) (by omega), q4]
  have HN : Hid (4 ≤ n ∧ n ≤ 17179869184 ∧ n % 4 = 0) := ⟨q1, q2, q3⟩
  have hni : (n : Int) ≤ 17179869184 := by omega
  have HH0 : Hid (∀ w, Chg (fun _ => False) w00 w → Calls Tryd.prog 8 #[.int .i64 (k : Int)] w fun e w' => ∃ oa oc, e = .returned (.tuple #[.slice oa 12 oc, .int .i64 0]) ∧ ByO w' w.heap.size (.slice oa 12 oc) (Fr24.headB k) ∧ Chg (fun _ => False) w w') := fun w hw => by
    have h9 := S.head (k : Int) w (S.keep hT hw) (by unfold I64; omega)
    rw [Fr24.headF_0 hkk, Int.toNat_natCast] at h9
    refine h9.mono ?_
    rintro e w' ⟨ov, rfl, ho, c9⟩
    obtain ⟨oa, oc, rfl⟩ := byO_form ho
    rw [Fr24.headB_len] at ho ⊢
    exact ⟨oa, oc, rfl, ho, c9⟩
  have HF0 : Hid (∀ w, Chg (fun _ => False) w00 w → Calls Tryd.prog 9 #[.int .i64 (k : Int), .int .i64 (n : Int)] w fun e w' => ∃ oa oc, e = .returned (.tuple #[.slice oa 12 oc, .int .i64 0]) ∧ ByO w' w.heap.size (.slice oa 12 oc) (Fr24.footB k n) ∧ Chg (fun _ => False) w w') := fun w hw => by
    have h9 := S.foot (k : Int) (n : Int) w (S.keep hT hw) (by unfold I64; omega) (by unfold I64; omega)
    rw [footF_0 hkk q1 q2 q3] at h9
    refine h9.mono ?_
    rintro e w' ⟨ov, rfl, ho, c9⟩
    obtain ⟨oa, oc, rfl⟩ := byO_form ho
    rw [Fr24.footB_len] at ho ⊢
    exact ⟨oa, oc, rfl, ho, c9⟩
  have HKB : Hid (k < 256) := by show _ < _; omega
  obtain ⟨Z, hZ, hZ96⟩ := place96 at_
  have HZ : Hid (wrap64 ((IntKind.u64.wrap at_).tmod 96) = (Z : Int)) := hZ
  have hZi : (Z : Int) < 96 := by omega
  have HMM : Hid (m < 4294967296) := hm
  clear hT hk hkk hn q1 q2 q3 q4 hU hV hZ cA bA
  go_enter Tryd.func4, Tryd.ntmps4
  go_upto_region 1 with fail
  generalize w00.alloc (.cells #[.int .i64 kn, .int .i64 qn, .int .i64 at_, .int .u32 (m : Int)] 38) = w0 at *
  generalize w00.heap.size = xb at *
  go_wp2_with fail
  refine Calls.mono (HK.out w0) ?_
  rintro z w1 ⟨rfl, c1⟩
  have HC1 : Hid (Chg (fun _ => False) w00 w1) := chg_then HCA.out c1
  replace x1 := cell_chg x1 c1
  replace x2 := cell_chg x2 c1
  replace x3 := cell_chg x3 c1
  have hx := HH0.out w1 HC1.out
  have HX1 : Hid _ := hx
  clear c1 hx HK x0 HCA
  go_wp2_with fail
  refine Calls.mono HX1.out ?_
  rintro z w2 ⟨ha, hcap, rfl, hh, c2⟩
  have HH2 : Hid (ByO w2 w1.heap.size (.slice ha 12 hcap) (Fr24.headB k)) := hh
  have HC2 : Hid (Chg (fun _ => False) w00 w2) := chg_then HC1.out c2
  replace x1 := cell_chg x1 c2
  replace x2 := cell_chg x2 c2
  have hx := HF0.out w2 HC2.out
  have HX2 : Hid _ := hx
  clear hh c2 hx HX1 HC1 x3
  go_wp2_with fail
  rw [HUV.out, HW1.out, HW2.out]
  generalize wrap64 (1 + V) = V1
  generalize IntKind.u64.wrap qn = V2
  refine Calls.mono HX2.out ?_
  rintro z w3 ⟨fa, fcap, rfl, hf, c3⟩
  have HF3 : Hid (ByO w3 w2.heap.size (.slice fa 12 fcap) (Fr24.footB k n)) := hf
  have HH3 : Hid (ByO w3 w1.heap.size (.slice ha 12 hcap) (Fr24.headB k)) := HH2.out.new c3
  have HC3 : Hid (Chg (fun _ => False) w00 w3) := chg_then HC2.out c3
  replace x2 := cell_chg x2 c3
  clear hf c3 HX2 HH2 HC2 HUV HW1 HW2 x1
  go_upto_region 8 with fail
  rw [HZ.out]
  generalize IntKind.u64.wrap at_ = V3
  have HB1 : Hid _ := burst24_any ha hcap Z 96 m (Fr24.headB k) w3 (byO_row HH3.out).1 (Fr24.headB_dig HKB.out) (byO_row HH3.out).2.2 (by omega) hZ96 HMM.out
  clear HZ x2 HH3
  go_wp2_with fail
  refine Calls.mono HB1.out ?_
  rintro z w4 ⟨g, jc, k1, ls, M, rfl, hjc, hls, hk1, hkM, hMP, htu, _, c4⟩
  have HF4 : Hid (ByO w4 w2.heap.size (.slice fa 12 fcap) (Fr24.footB k n)) := HF3.out.new c4
  have HC4 : Hid (Chg (fun _ => False) w00 w4) := chg_then HC3.out c4
  have HR1 : Hid _ := S.rhead (some ⟨g, 0, none⟩) 12 jc ls w4 (S.keep HT.out HC4.out) hls htu.byt hjc (by omega)
  have htold := rhead_any_told HKK.out htu hMP
  obtain ⟨RA, hRA⟩ : ∃ x, Fr24.rheadF ls = x := ⟨_, rfl⟩
  rw [hRA] at HR1 htold
  obtain ⟨rk, re⟩ := RA
  simp only at htold
  obtain ⟨d, hd0⟩ : ∃ d, decide (M = 0) = d := ⟨_, rfl⟩
  have z1 : (re == 0) = d := by
    rw [← hd0, Bool.eq_iff_iff, beq_iff_eq, decide_eq_true_iff]
    exact htold
  have z2 : ((k1 : Int) == 0) = d := by
    rw [← hd0, Bool.eq_iff_iff, beq_iff_eq, decide_eq_true_iff]
    exact ⟨fun h => hkM.1 (by omega), fun h => by rw [hkM.2 h]; rfl⟩
  have z3 : (k1 == 0) = d := by
    rw [← hd0, Bool.eq_iff_iff, beq_iff_eq, decide_eq_true_iff]
    exact hkM
  have z4 : (d != d) = false := by simp
  clear hls hkM hMP htu c4 hRA htold hd0 HB1 HF3 HC3 hjc
  go_wp2_with fail
  refine Calls.mono HR1.out ?_
  rintro z w5 ⟨rfl, c5⟩
  have HF5 : Hid (ByO w5 w2.heap.size (.slice fa 12 fcap) (Fr24.footB k n)) := HF4.out.new c5
  have HC5 : Hid (Chg (fun _ => False) w00 w5) := chg_then HC4.out c5
  clear c5 HR1 HF4 HC4
  by_cases h32 : Z < 32
  · have HB2 : Hid _ := burst24_any fa fcap Z 32 m (Fr24.footB k n) w5 (byO_row HF5.out).1 (Fr24.footB_dig HKB.out) (byO_row HF5.out).2.2 (by omega) hZ96 HMM.out
    have hz32 : (Z : Int) < 32 := by omega
    go_upto_region 12 with fail
    clear z1 z2 z3 z4
    go_wp2_with fail
    refine Calls.mono HB2.out ?_
    rintro z w6 ⟨g2, jc2, k2, ls2, M2, rfl, hjc, hls, hk2, hkM, hMP, htu, hqq, c6⟩
    have HC6 : Hid (Chg (fun _ => False) w00 w6) := chg_then HC5.out c6
    have HR2 : Hid _ := S.rfoot (some ⟨g2, 0, none⟩) 12 jc2 ls2 w6 (S.keep HT.out HC6.out) hls htu.byt hjc (by omega)
    have htold := rfoot_any_told HKK.out HN.out.1 HN.out.2.1 HN.out.2.2 (E := 32) (by omega) htu hqq hMP
    obtain ⟨RB, hRB⟩ : ∃ x, Fr24.rfootF ls2 = x := ⟨_, rfl⟩
    rw [hRB] at HR2 htold
    obtain ⟨fk, fn, fe⟩ := RB
    simp only at htold
    obtain ⟨d2, hd0⟩ : ∃ d, decide (M2 = 0) = d := ⟨_, rfl⟩
    have z1 : (fe == 0) = d2 := by
      rw [← hd0, Bool.eq_iff_iff, beq_iff_eq, decide_eq_true_iff]
      exact htold
    have z2 : ((k2 : Int) == 0) = d2 := by
      rw [← hd0, Bool.eq_iff_iff, beq_iff_eq, decide_eq_true_iff]
      exact ⟨fun h => hkM.1 (by omega), fun h => by rw [hkM.2 h]; rfl⟩
    have z3 : (k2 == 0) = d2 := by
      rw [← hd0, Bool.eq_iff_iff, beq_iff_eq, decide_eq_true_iff]
      exact hkM
    have z4 : (d2 == d2) = true := by simp
    clear hls hkM hMP htu hqq c6 hRB htold hd0 HB2 HF5 HC5 hjc
    go_wp2_with fail
    refine Calls.mono HR2.out ?_
    rintro z w7 ⟨rfl, c7⟩
    have HC7 : Hid (Chg (fun _ => False) w00 w7) := chg_then HC6.out c7
    have hx := HFX.out w7 HC7.out
    have HX7 : Hid _ := hx
    clear c7 HR2 HC6 hx
    go_wp2_with fail
    refine Calls.mono HX7.out ?_
    rintro z w8 ⟨rfl, c8⟩
    have HC8 : Hid (Chg (fun _ => False) w00 w8) := chg_then HC7.out c8
    clear c8 HX7 HC7
    go_wp2
    go_ret
    exact ⟨rfl, HC8.out⟩
  by_cases h80 : Z < 80
  · have HB2 : Hid _ := burst24_any fa fcap Z 80 m (Fr24.footB k n) w5 (byO_row HF5.out).1 (Fr24.footB_dig HKB.out) (byO_row HF5.out).2.2 (by omega) hZ96 HMM.out
    have hz32 : ¬ (Z : Int) < 32 := by omega
    have hz80 : (Z : Int) < 80 := by omega
    go_upto_region 12 with fail
    clear z1 z2 z3 z4
    go_wp2_with fail
    refine Calls.mono HB2.out ?_
    rintro z w6 ⟨g2, jc2, k2, ls2, M2, rfl, hjc, hls, hk2, hkM, hMP, htu, hqq, c6⟩
    have HC6 : Hid (Chg (fun _ => False) w00 w6) := chg_then HC5.out c6
    have HR2 : Hid _ := S.rfoot (some ⟨g2, 0, none⟩) 12 jc2 ls2 w6 (S.keep HT.out HC6.out) hls htu.byt hjc (by omega)
    have htold := rfoot_any_told HKK.out HN.out.1 HN.out.2.1 HN.out.2.2 (E := 80) (by omega) htu hqq hMP
    obtain ⟨RB, hRB⟩ : ∃ x, Fr24.rfootF ls2 = x := ⟨_, rfl⟩
    rw [hRB] at HR2 htold
    obtain ⟨fk, fn, fe⟩ := RB
    simp only at htold
    obtain ⟨d2, hd0⟩ : ∃ d, decide (M2 = 0) = d := ⟨_, rfl⟩
    have z1 : (fe == 0) = d2 := by
      rw [← hd0, Bool.eq_iff_iff, beq_iff_eq, decide_eq_true_iff]
      exact htold
    have z2 : ((k2 : Int) == 0) = d2 := by
      rw [← hd0, Bool.eq_iff_iff, beq_iff_eq, decide_eq_true_iff]
      exact ⟨fun h => hkM.1 (by omega), fun h => by rw [hkM.2 h]; rfl⟩
    have z3 : (k2 == 0) = d2 := by
      rw [← hd0, Bool.eq_iff_iff, beq_iff_eq, decide_eq_true_iff]
      exact hkM
    have z4 : (d2 == d2) = true := by simp
    clear hls hkM hMP htu hqq c6 hRB htold hd0 HB2 HF5 HC5 hjc
    go_wp2_with fail
    refine Calls.mono HR2.out ?_
    rintro z w7 ⟨rfl, c7⟩
    have HC7 : Hid (Chg (fun _ => False) w00 w7) := chg_then HC6.out c7
    have hx := HFX.out w7 HC7.out
    have HX7 : Hid _ := hx
    clear c7 HR2 HC6 hx
    go_wp2_with fail
    refine Calls.mono HX7.out ?_
    rintro z w8 ⟨rfl, c8⟩
    have HC8 : Hid (Chg (fun _ => False) w00 w8) := chg_then HC7.out c8
    clear c8 HX7 HC7
    go_wp2
    go_ret
    exact ⟨rfl, HC8.out⟩
  · have HB2 : Hid _ := burst24_any fa fcap Z 96 m (Fr24.footB k n) w5 (byO_row HF5.out).1 (Fr24.footB_dig HKB.out) (byO_row HF5.out).2.2 (by omega) hZ96 HMM.out
    have hz32 : ¬ (Z : Int) < 32 := by omega
    have hz80 : ¬ (Z : Int) < 80 := by omega
    go_upto_region 12 with fail
    clear z1 z2 z3 z4
    go_wp2_with fail
    refine Calls.mono HB2.out ?_
    rintro z w6 ⟨g2, jc2, k2, ls2, M2, rfl, hjc, hls, hk2, hkM, hMP, htu, hqq, c6⟩
    have HC6 : Hid (Chg (fun _ => False) w00 w6) := chg_then HC5.out c6
    have HR2 : Hid _ := S.rfoot (some ⟨g2, 0, none⟩) 12 jc2 ls2 w6 (S.keep HT.out HC6.out) hls htu.byt hjc (by omega)
    have htold := rfoot_any_told HKK.out HN.out.1 HN.out.2.1 HN.out.2.2 (E := 96) (by omega) htu hqq hMP
    obtain ⟨RB, hRB⟩ : ∃ x, Fr24.rfootF ls2 = x := ⟨_, rfl⟩
    rw [hRB] at HR2 htold
    obtain ⟨fk, fn, fe⟩ := RB
    simp only at htold
    obtain ⟨d2, hd0⟩ : ∃ d, decide (M2 = 0) = d := ⟨_, rfl⟩
    have z1 : (fe == 0) = d2 := by
      rw [← hd0, Bool.eq_iff_iff, beq_iff_eq, decide_eq_true_iff]
      exact htold
    have z2 : ((k2 : Int) == 0) = d2 := by
      rw [← hd0, Bool.eq_iff_iff, beq_iff_eq, decide_eq_true_iff]
      exact ⟨fun h => hkM.1 (by omega), fun h => by rw [hkM.2 h]; rfl⟩
    have z3 : (k2 == 0) = d2 := by
      rw [← hd0, Bool.eq_iff_iff, beq_iff_eq, decide_eq_true_iff]
      exact hkM
    have z4 : (d2 == d2) = true := by simp
    clear hls hkM hMP htu hqq c6 hRB htold hd0 HB2 HF5 HC5 hjc
    go_wp2_with fail
    refine Calls.mono HR2.out ?_
    rintro z w7 ⟨rfl, c7⟩
    have HC7 : Hid (Chg (fun _ => False) w00 w7) := chg_then HC6.out c7
    have hx := HFX.out w7 HC7.out
    have HX7 : Hid _ := hx
    clear c7 HR2 HC6 hx
    go_wp2_with fail
    refine Calls.mono HX7.out ?_
    rintro z w8 ⟨rfl, c8⟩
    have HC8 : Hid (Chg (fun _ => False) w00 w8) := chg_then HC7.out c8
    clear c8 HX7 HC7
    go_wp2
    go_ret
    exact ⟨rfl, HC8.out⟩
end Go.Proofs.YtikokgngkagieaaDoor
