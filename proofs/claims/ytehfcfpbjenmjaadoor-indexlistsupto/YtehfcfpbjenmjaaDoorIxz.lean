/- The walk of IndexLists; of no statement by itself. -/
import Derived.Test.YtehfcfpbjenmjaaDoorIxr
import Derived.Test.YtehfcfpbjenmjaaDoorIxy
namespace Go.Proofs.YtehfcfpbjenmjaaDoor
open Go.RowKit
set_option linter.unusedVariables false
set_option linter.unusedSimpArgs false
theorem infoBs : (Tryd.prog.info? 22).map (fun i => (i.zero, i.size, i.bytes)) = some (some (.slice none 0 0), 1, 24) := by kernel_rfl
theorem infoStr : (Tryd.prog.info? 9).map (fun i => (i.zero, i.size, i.bytes)) = some (some (.string ByteArray.empty), 1, 16) := by kernel_rfl
theorem infoSR : (Tryd.prog.info? 23).map (fun i => (i.zero, i.size, i.bytes)) = some (some (.slice none 0 0), 1, 24) := by kernel_rfl
theorem infoSP : (Tryd.prog.info? 39).map (fun i => (i.zero, i.size, i.bytes)) = some (some (.slice none 0 0), 1, 24) := by kernel_rfl
theorem cells3p {w : World} {a : Nat} {x0 x1 x2 : Value} {t : TypeId} (h : w.heap[a]? = some (.cells #[x0, x1, x2] t (0, 0))) : w.cell? ⟨a, 0, none⟩ = some x0 ∧ w.cell? ⟨a, 1, none⟩ = some x1 ∧ w.cell? ⟨a, 2, none⟩ = some x2 :=
  ⟨by simp [World.cell?, h], by simp [World.cell?, h], by simp [World.cell?, h]⟩
theorem one1 (v : Value) (h : v.oneCell' = true) : ∀ u ∈ [v], u.oneCell' = true := fun u hu => by simp at hu; subst hu; exact h
set_option maxHeartbeats 1000000 in
set_option maxRecDepth 100000 in
theorem tail23_any (i : Nat) (w : World) (hi : i ≤ 2) : Calls Tryd.prog 16 #[.int .i64 (i : Int)] w fun e w' => ∃ p, e = .returned p ∧ ByO w' w.heap.size p (List.replicate 300 (100 + i)) ∧ Chg (fun _ => False) w w' := by
  obtain ⟨i0, hi0, hz0, hz1, hz2⟩ := info_parts info5u
  obtain ⟨T, hT⟩ : ∃ T, 100 + i = T := ⟨_, rfl⟩
  have hii : (i : Int) + 100 = (T : Int) := by omega
  have hw8 : IntKind.u8.wrap (T : Int) = (T : Int) := by simp [IntKind.wrap, IntKind.signed, IntKind.bits]; omega
  have hTi : (T : Int) ≤ 102 := by omega
  rw [hT]
  go_enter Tryd.func16, Tryd.ntmps16
  go_wp2_with fail
  go_loopw [3, 4] (fun b j wr => ∃ k : Nat, k ≤ 300 ∧ j = .int .i64 (k : Int) ∧ Hid (ByO wr w.heap.size b (List.replicate k T)) ∧ Chg (fun _ => False) w wr) (fun _ j _ => 300 - (intOf j).toNat)
  case atStart => exact ⟨0, by omega, rfl, byO_nil _ _, Chg.refl _ _⟩
  case round =>
    obtain ⟨k, hk, rfl, HO, hc⟩ := hrel
    obtain ⟨ba, bc, rfl⟩ := byO_form HO.out
    rw [List.length_replicate] at HO ⊢
    have hki : (k : Int) ≤ 300 := by omega
    by_cases hlt : k < 300
    · have hown : wr.ownsRow w.heap.size 5 1 (.slice ba k bc) k ((nums (List.replicate k T)).map (Value.int .u8)) := by
        have := HO.out
        unfold ByO at this
        rw [List.length_replicate] at this
        exact this
      go_wp2_with (at_builtin; refine wpList_append_moved rfl (.tmp 6) (.tmp 10) 22 rfl w.heap.size 5 i0 (.int .u8 0) 1 1 Tryd.underlying22 hi0 hz0 hz1 hz2 rfl (by decide) _ k ((nums (List.replicate k T)).map (Value.int .u8)) rfl (some ⟨wr.heap.size, 0, none⟩) 1 1 rfl ((nums [T]).map (Value.int .u8)) (hown.alloc _) (own_from (byO_lit1 wr T)) (oneB [T]) (by unfold maxLen; omega) (by omega) (by have := hc.size; simp; omega) ?_)
      intro v1 w1 hown1 hg1 hm1
      have hc1 : Chg (fun _ => False) w w1 := (hc.alloc _).grown hg1 (fun j e => .inr ((hown.lt j e).1))
      have HO1 : Hid (ByO w1 w.heap.size v1 (List.replicate (k + 1) T)) := by
        show ByO _ _ _ _
        rw [List.replicate_succ']
        exact byO_app hown1
      clear hown1 hg1 hm1 hown HO
      go_wp2
      go_roundw
      case rel => exact ⟨k + 1, by omega, by go_num, HO1, hc1⟩
      case measure => simp [intOf]; omega
    · obtain rfl : k = 300 := by omega
      go_wp2
      go_ret
      exact ⟨_, rfl, HO.out, hc⟩
variable {Tab : World → Prop}
set_option maxHeartbeats 64000000 in
set_option maxRecDepth 100000 in
theorem lists23_any (S : IndexSpec Tab) (a0 : Option Addr) (n0 c0 : Nat) (l0 : List Rec) (a1 : Option Addr) (n1 c1 : Nat) (l1 : List Rec) (w0 : World) (hT : Tab w0) (h0 : RcF w0 a0 n0 c0 l0) (hn0 : n0 ≤ 1048576) (h1 : RcF w0 a1 n1 c1 l1) (hn1 : n1 ≤ 1048576) : Calls Tryd.prog 7 #[.slice a0 n0 c0, .slice a1 n1 c1] w0 fun e w' => e = .returned (.bool true) ∧ Chg (fun _ => False) w0 w' := by
  obtain ⟨jb, hjb, hb0, hb1, hb2⟩ := info_parts infoBs
  obtain ⟨js, hjs, hs0, hs1, hs2⟩ := info_parts infoStr
  obtain ⟨jr, hjr, hr0, hr1, hr2⟩ := info_parts infoSR
  obtain ⟨jp, hjp, hp0, hp1, hp2⟩ := info_parts infoSP
  obtain ⟨iu, hiu, hu0, hu1, hu2⟩ := info_parts info5u
  obtain ⟨ir, hir, hi0, hi1, hi2⟩ := info_parts infoRc
  obtain ⟨ip, hip, hq0, hq1, hq2⟩ := info_parts infoPl
  have HT : Hid (Tab w0) := hT
  have HK : Hid (∀ ww, Chg (fun _ => False) w0 ww → Calls Tryd.prog 11 #[] ww fun e w' => e = .returned (.bool true) ∧ Chg (fun _ => False) ww w') := fun ww hc => known23_any S ww (S.keep HT.out hc)
  obtain ⟨SD, hSD⟩ : ∃ f : Nat → Option Addr, f = fun i => if i = 1 then a1 else a0 := ⟨_, rfl⟩
  obtain ⟨SN, hSN⟩ : ∃ f : Nat → Nat, f = fun i => if i = 1 then n1 else n0 := ⟨_, rfl⟩
  obtain ⟨SC, hSC⟩ : ∃ f : Nat → Nat, f = fun i => if i = 1 then c1 else c0 := ⟨_, rfl⟩
  obtain ⟨SL, hSL⟩ : ∃ f : Nat → List Rec, f = fun i => if i = 1 then l1 else l0 := ⟨_, rfl⟩
  have HSF : Hid (∀ i, RcF w0 (SD i) (SN i) (SC i) (SL i)) := fun i => by
    rw [hSD, hSN, hSC, hSL]
    by_cases e : i = 1
    · simp only [e, if_true]; exact h1
    · simp only [e, if_false]; exact h0
  have HNB : Hid (∀ i, SN i ≤ 1048576) := fun i => by
    rw [hSN]
    by_cases e : i = 1
    · simp only [e, if_true]; exact hn1
    · simp only [e, if_false]; exact hn0
  have HLL : Hid (∀ i, (SL i).length = SN i) := fun i => (HSF.out i).len
  have cA := chg_one w0 (.cells #[.slice a0 n0 c0, .slice a1 n1 c1, .slice a0 n0 c0] 23)
  have bA := heap_alloc_last w0 (.cells #[.slice a0 n0 c0, .slice a1 n1 c1, .slice a0 n0 c0] 23)
  have HCA : Hid (Chg (fun _ => False) w0 (w0.alloc (.cells #[.slice a0 n0 c0, .slice a1 n1 c1, .slice a0 n0 c0] 23))) := cA
  have HSR : Hid (∀ i, i < 3 → (w0.alloc (.cells #[.slice a0 n0 c0, .slice a1 n1 c1, .slice a0 n0 c0] 23)).cell? ⟨w0.heap.size, i, none⟩ = some (.slice (SD i) (SN i) (SC i))) := fun i hi => by
    rw [hSD, hSN, hSC]
    have hc : i = 0 ∨ i = 1 ∨ i = 2 := by omega
    obtain ⟨y0, y1, y2⟩ := cells3p bA
    rcases hc with rfl | rfl | rfl
    · exact y0
    · exact y1
    · exact y2
  have HPR : Hid (∀ i, Ix23.putI (SL i) = ((Ix23.putI (SL i)).1, 7) ∨ (Ix23.rightB 0 0 (SL i) = true ∧ (Ix23.putI (SL i)).2 = 0)) := fun i => by
    by_cases hr : Ix23.rightB 0 0 (SL i) = true
    · exact .inr ⟨hr, by rw [Ix23.putI_0 hr]⟩
    · exact .inl (by rw [Ix23.putI_7 hr])
  have HRM : Hid (∀ i, (Ix23.putI (SL i)).1.length ≤ 61572651155500) := fun i => Ix23.putI_room (by have h9 := HNB.out i; rw [HLL.out]; omega)
  have HPT : Hid (∀ i ww, Chg (fun _ => False) w0 ww → Calls Tryd.prog 12 #[.slice (SD i) (SN i) (SC i)] ww fun e w' => ∃ ov, e = .returned (.tuple #[ov, .int .i64 (Ix23.putI (SL i)).2]) ∧ ByO w' ww.heap.size ov (Ix23.putI (SL i)).1 ∧ Chg (fun _ => False) ww w') := fun i ww hc => S.put _ _ _ _ ww (S.keep HT.out hc) ((HSF.out i).new hc) (by have h9 := HNB.out i; omega)
  have HGT : Hid (∀ i ww a n c, Ix23.rightB 0 0 (SL i) = true → Chg (fun _ => False) w0 ww → Row8 ww a n c (nums (Ix23.putI (SL i)).1) → n ≤ c → Calls Tryd.prog 9 #[.slice a n c] ww fun e w' => ∃ lv, e = .returned (.tuple #[lv, .int .i64 (n : Int), .int .i64 0]) ∧ RcO w' ww.heap.size lv (SL i) ∧ Chg (fun _ => False) ww w') := fun i ww a n c hr hc hrow hnc => by
    have hl := hrow.1
    rw [nums_len] at hl
    have h9 := HNB.out i
    have hm := many_put hr (by rw [HLL.out]; omega) []
    rw [List.append_nil] at hm
    have h8 := S.get a n c _ ww (S.keep HT.out hc) hrow (Ix23.putI_dig _) hnc (by have := HRM.out i; omega) (.inl (by rw [hm, HLL.out]; omega))
    have hg := Ix23.get_put hr []
    rw [List.append_nil] at hg
    rw [hg, hl] at h8
    exact h8
  have HPL : Hid (∀ i ww, Ix23.rightB 0 0 (SL i) = true → Chg (fun _ => False) w0 ww → ∃ x y, Calls Tryd.prog 14 #[.int .i64 0, .slice (SD i) (SN i) (SC i)] ww fun e w' => ∃ sv, e = .returned (.tuple #[sv, .int .i64 x, .int .i64 y, .int .i64 0]) ∧ PlO w' ww.heap.size sv (Ix23.placeL 0 0 (SL i)) ∧ Chg (fun _ => False) ww w') := fun i ww hr hc => by
    have h9 := HNB.out i
    have h8 := S.places 0 _ _ _ _ ww (S.keep HT.out hc) ((HSF.out i).new hc) (by omega) (by unfold I64; omega)
    have hs := sum_bd hr
    rw [placesI_yes hr (by omega) (by omega)] at h8
    exact ⟨_, _, h8⟩
  obtain ⟨BB, hBB⟩ : ∃ f : Nat → List Nat, f = fun i => (Ix23.putI (SL i)).1 := ⟨_, rfl⟩
  have hBi : ∀ i, (Ix23.putI (SL i)).1 = BB i := fun i => by rw [hBB]
  obtain ⟨PP, hPP⟩ : ∃ f : Nat → List Plc, f = fun i => Ix23.placeL 0 0 (SL i) := ⟨_, rfl⟩
  have hPi : ∀ i, Ix23.placeL 0 0 (SL i) = PP i := fun i => by rw [hPP]
  have HPN : Hid (∀ i, (PP i).length = SN i) := fun i => by rw [← hPi, Ix23.placeL_len, HLL.out]
  have HPK : Hid (∀ (i k : Nat) (q : Rec), (SL i)[k]? = some q → ∃ p : Plc, (PP i)[k]? = some p ∧ p.r = q) := fun i k q hq => by
    rw [← hPi, Ix23.placeL_at hq]
    exact ⟨_, rfl, rfl⟩
  simp only [hBi] at HPR HRM HPT HGT
  simp only [hPi] at HPL
  clear hT h0 h1 hn0 hn1 hSD hSN hSC hSL cA bA hBB hBi hPP hPi
  go_enter Tryd.func7, Tryd.ntmps7
  go_upto_region 7 with fail
  generalize w0.alloc (.cells #[.slice a0 n0 c0, .slice a1 n1 c1, .slice a0 n0 c0] 23) = w1 at *
  generalize w0.heap.size = g36 at *
  go_wp2_with fail
  go_loopw [5, 6, 7, 8, 9, 38] (fun hb hr hp hw hl i wr => ∃ k : Nat, k ≤ 3 ∧ i = .int .i64 (k : Int) ∧ ∃ bvs rvs pvs R, Hid (Rws w1.heap.size wr R) ∧ Hid (Fx (fun j => .slice (SD j) (SN j) (SC j)) (fun j => strOfNums (nums (BB j))) R k hb hr hp hw hl bvs rvs pvs (fun j => (BB j).length) (fun j => ins .u8 (nums (BB j))) SN (fun j => rcs (SL j)) SN (fun j => pls (PP j))) ∧ Hid (∀ j, j < k → Ix23.rightB 0 0 (SL j) = true) ∧ Hid (Chg (fun _ => False) w1 wr)) (fun _ _ _ _ _ i _ => 3 - (intOf i).toNat)
  case atStart => exact ⟨0, by omega, rfl, [], [], [], R00, rws_start w1, ⟨rfl, rfl, rfl, rfl, rfl, rfl, rfl, rfl, fun i v e => by simp at e, fun i v e => by simp at e, fun i v e => by simp at e⟩, fun j hj => by omega, Chg.refl _ _⟩
  case round =>
    obtain ⟨k, hk, rfl, bvs, rvs, pvs, R, HW, HF, HRT, HC⟩ := hrel
    have hki : (k : Int) ≤ 3 := by omega
    have HCI : Hid (Chg (fun _ => False) w0 wr) := chg_then HCA.out HC.out
    by_cases hlt : k < 3
    · have d1 : decide ((k : Int) < 3) = true := decide_eq_true (by omega)
      have d1' : decide (k < 3) = true := decide_eq_true hlt
      have x0 := cell_chg (HSR.out k hlt) HC.out
      have HP1 := HPT.out k wr HCI.out
      have hpr := HPR.out k
      obtain ⟨er, her⟩ : ∃ e, (Ix23.putI (SL k)).2 = e := ⟨_, rfl⟩
      rw [her] at HP1 hpr
      have HP1 : Hid _ := HP1
      have hpr2 : er = 7 ∨ (Ix23.rightB 0 0 (SL k) = true ∧ er = 0) := by
        rcases hpr with h9 | h9
        · rw [h9] at her; exact .inl her.symm
        · exact .inr h9
      have hnk : (SN k : Int) ≤ 1048576 := by have := HNB.out k; omega
      clear hpr her
      go_wp2_with fail
      refine Calls.mono HP1.out ?_
      rintro z w2 ⟨ov, rfl, ho2, c2⟩
      obtain ⟨oa, oc, rfl⟩ := byO_form ho2
      have HC2 : Hid (Chg (fun _ => False) w0 w2) := chg_then HCI.out c2
      have HO2 : Hid (ByO w2 wr.heap.size (.slice oa (BB k).length oc) (BB k)) := ho2
      have HC12 : Hid (Chg (fun _ => False) wr w2) := c2
      clear ho2 c2 HP1 x0
      go_wp2_with fail
      refine Calls.mono (num_q _ _) ?_
      rintro z w9 ⟨rfl, rfl⟩
      rcases hpr2 with rfl | ⟨hright, rfl⟩
      · go_wp2_with fail
        refine Calls.mono (num_q _ _) ?_
        rintro z w9 ⟨rfl, rfl⟩
        go_wp2_with fail
        refine Calls.mono (HK.out _ HC2.out) ?_
        rintro z w9 ⟨rfl, c9⟩
        have HC9 : Hid (Chg (fun _ => False) w0 w9) := chg_then HC2.out c9
        clear c9
        go_wp2
        go_ret
        exact ⟨rfl, HC9.out⟩
      · have HRK : Hid (Ix23.rightB 0 0 (SL k) = true) := hright
        have HW2 : Hid (Rws w1.heap.size w2 (upR R (1, k) ⟨5, 1, .slice oa (BB k).length oc, (BB k).length, ins .u8 (nums (BB k))⟩)) := (HW.out.new HC12.out).add (r := ⟨5, 1, .slice oa (BB k).length oc, (BB k).length, ins .u8 (nums (BB k))⟩) HO2.out HC.out.size (fun j s g ej gs => (HW.out.lt ej gs).2)
        obtain ⟨hr8, _, hcap8⟩ := byO_row HO2.out
        have HG1 : Hid _ := HGT.out k w2 oa _ oc hright HC2.out hr8 hcap8
        have hbk := HRM.out k
        have hBki : ((BB k).length : Int) ≤ 61572651155500 := by omega
        clear hright hr8 hcap8 HO2
        go_wp2_with fail
        refine Calls.mono HG1.out ?_
        rintro z w3 ⟨lv, rfl, hl3, c3⟩
        obtain ⟨la, lc, rfl, _⟩ := formI hl3
        have HC3 : Hid (Chg (fun _ => False) w0 w3) := chg_then HC2.out c3
        have HC23 : Hid (Chg (fun _ => False) w2 w3) := c3
        unfold RcO at hl3
        rw [HLL.out] at hl3 ⊢
        have HW3 : Hid (Rws w1.heap.size w3 (upR (upR R (1, k) ⟨5, 1, .slice oa (BB k).length oc, (BB k).length, ins .u8 (nums (BB k))⟩) (2, k) ⟨43, 2, .slice la (SN k) lc, SN k, rcs (SL k)⟩)) := (HW2.out.new c3).add (r := ⟨43, 2, .slice la (SN k) lc, SN k, rcs (SL k)⟩) hl3 (Nat.le_trans HC.out.size HC12.out.size) (fun j s g ej gs => (HW2.out.lt ej gs).2)
        obtain ⟨px, py, hpl⟩ := HPL.out k w3 HRK.out HC3.out
        have HPLK : Hid _ := hpl
        clear hl3 c3 HG1 hpl HW2
        go_wp2_with fail
        refine Calls.mono HPLK.out ?_
        rintro z w4 ⟨sv, rfl, hs4, c4⟩
        obtain ⟨sa, sc, rfl, _⟩ := formI hs4
        unfold PlO at hs4
        rw [HPN.out] at hs4 ⊢
        have HC4 : Hid (Chg (fun _ => False) w0 w4) := chg_then HC3.out c4
        have HC24 : Hid (Chg (fun _ => False) w2 w4) := chg_then HC23.out c4
        have HW4 : Hid (Rws w1.heap.size w4 (upR (upR (upR R (1, k) ⟨5, 1, .slice oa (BB k).length oc, (BB k).length, ins .u8 (nums (BB k))⟩) (2, k) ⟨43, 2, .slice la (SN k) lc, SN k, rcs (SL k)⟩) (3, k) ⟨45, 4, .slice sa (SN k) sc, SN k, pls (PP k)⟩)) := (HW3.out.new c4).add (r := ⟨45, 4, .slice sa (SN k) sc, SN k, pls (PP k)⟩) hs4 (by have h5 := HC.out.size; have h6 := HC12.out.size; have h7 := HC23.out.size; omega) (fun j s g ej gs => (HW3.out.lt ej gs).2)
        have hBw : w1.heap.size ≤ w4.heap.size := by have h5 := HC.out.size; have h6 := HC12.out.size; have h7 := HC24.out.size; omega
        clear hs4 c4 HPLK HW3
        go_wp2_with fail
        refine Calls.mono (num_q _ _) ?_
        rintro z w9 ⟨rfl, rfl⟩
        go_wp2_with fail
        refine Calls.mono (num_q _ _) ?_
        rintro z w9 ⟨rfl, rfl⟩
        obtain ⟨R3, hR3⟩ : ∃ R3, upR (upR (upR R (1, k) ⟨5, 1, .slice oa (BB k).length oc, (BB k).length, ins .u8 (nums (BB k))⟩) (2, k) ⟨43, 2, .slice la (SN k) lc, SN k, rcs (SL k)⟩) (3, k) ⟨45, 4, .slice sa (SN k) sc, SN k, pls (PP k)⟩ = R3 := ⟨_, rfl⟩
        have HR3 : Hid _ := hR3
        have e0 : R3 (0, 0) = some ⟨22, 1, u5, k, bvs⟩ := by rw [← hR3]; simp [upR, HF.out.c0]
        have e1 : R3 (0, 1) = some ⟨23, 1, u6, k, rvs⟩ := by rw [← hR3]; simp [upR, HF.out.c1]
        have e2 : R3 (0, 2) = some ⟨39, 1, u7, k, pvs⟩ := by rw [← hR3]; simp [upR, HF.out.c2]
        have e3 : R3 (0, 3) = some ⟨9, 1, u8, k, (List.range k).map fun j => .string (strOfNums (nums (BB j)))⟩ := by rw [← hR3]; simp [upR, HF.out.c3]
        have e4 : R3 (0, 4) = some ⟨23, 1, u9, k, (List.range k).map fun j => .slice (SD j) (SN j) (SC j)⟩ := by rw [← hR3]; simp [upR, HF.out.c4]
        have e5 : R3 (1, k) = some ⟨5, 1, .slice oa (BB k).length oc, (BB k).length, ins .u8 (nums (BB k))⟩ := by rw [← hR3]; simp [upR]
        have HEB : Hid _ := e5
        rw [hR3] at HW4
        have HE1 : Hid _ := e1
        have HE2 : Hid _ := e2
        have HE3 : Hid _ := e3
        have HE4 : Hid _ := e4
        obtain ⟨ta0, tc0, hu0⟩ := form1 (HW4.out.own _ _ e0)
        simp only at hu0
        subst hu0
        obtain ⟨ta1, tc1, hu1⟩ := form1 (HW4.out.own _ _ e1)
        simp only at hu1
        subst hu1
        obtain ⟨ta2, tc2, hu2⟩ := form1 (HW4.out.own _ _ e2)
        simp only at hu2
        subst hu2
        obtain ⟨ta3, tc3, hu3⟩ := form1 (HW4.out.own _ _ e3)
        simp only at hu3
        subst hu3
        obtain ⟨ta4, tc4, hu4⟩ := form1 (HW4.out.own _ _ e4)
        simp only at hu4
        subst hu4
        have HE0 : Hid _ := e0
        have HC4Z : Hid (Chg (fun _ => False) w1 w4) := chg_then HC.out (chg_then HC12.out HC24.out)
        clear hR3 e0 e1 e2 e3 e4 e5 HC24
        have c5A := chg_one w4 (.cells #[.slice oa (BB k).length oc] 22)
        have hw5A := HW4.out.new c5A
        have hown5 := hw5A.own _ _ (HE0.out)
        have hfr5 := from_vI w4 (.slice oa (BB k).length oc) 22
        have HC5A : Hid (Chg (fun _ => False) w1 (w4.alloc (.cells #[.slice oa (BB k).length oc] 22))) := chg_then HC4Z.out c5A
        have HW5A : Hid _ := hw5A
        have hB5 := HC5A.out.size
        clear c5A hw5A
        go_wp2_with (at_builtin; refine wpList_append_moved rfl _ _ 48 rfl w1.heap.size 22 jb (.slice none 0 0) 1 24 Tryd.underlying48 hjb hb0 hb1 hb2 rfl (by decide) _ k (bvs) rfl (some ⟨w4.heap.size, 0, none⟩) 1 1 rfl [.slice oa (BB k).length oc] hown5 hfr5 (one1 _ rfl) (by unfold maxLen; omega) (by omega) hB5 ?_)
        intro v5 w5 ho5 hg5 hm5
        obtain ⟨b5, d5, rfl⟩ := form1 ho5
        have HW5 : Hid _ := HW5A.out.grow (HE0.out) ho5 hg5 hm5
        have HC5Z : Hid (Chg (fun _ => False) w1 w5) := HC5A.out.grown hg5 (fun g e => .inr ((hown5.lt g e).1))
        clear ho5 hg5 hm5 hown5 hfr5 HW5A HC5A hB5 HW4
        have c6A := chg_one w5 (.cells #[.slice la (SN k) lc] 23)
        have hw6A := HW5.out.new c6A
        have hown6 := hw6A.own _ _ ((upR_ne (by decide)).trans HE1.out)
        have hfr6 := from_vI w5 (.slice la (SN k) lc) 23
        have HC6A : Hid (Chg (fun _ => False) w1 (w5.alloc (.cells #[.slice la (SN k) lc] 23))) := chg_then HC5Z.out c6A
        have HW6A : Hid _ := hw6A
        have hB6 := HC6A.out.size
        clear c6A hw6A
        go_wp2_with (at_builtin; refine wpList_append_moved rfl _ _ 49 rfl w1.heap.size 23 jr (.slice none 0 0) 1 24 Tryd.underlying49 hjr hr0 hr1 hr2 rfl (by decide) _ k (rvs) rfl (some ⟨w5.heap.size, 0, none⟩) 1 1 rfl [.slice la (SN k) lc] hown6 hfr6 (one1 _ rfl) (by unfold maxLen; omega) (by omega) hB6 ?_)
        intro v6 w6 ho6 hg6 hm6
        obtain ⟨b6, d6, rfl⟩ := form1 ho6
        have HW6 : Hid _ := HW6A.out.grow ((upR_ne (by decide)).trans HE1.out) ho6 hg6 hm6
        have HC6Z : Hid (Chg (fun _ => False) w1 w6) := HC6A.out.grown hg6 (fun g e => .inr ((hown6.lt g e).1))
        clear ho6 hg6 hm6 hown6 hfr6 HW6A HC6A hB6 HW5
        have c7A := chg_one w6 (.cells #[.slice sa (SN k) sc] 39)
        have hw7A := HW6.out.new c7A
        have hown7 := hw7A.own _ _ ((upR_ne (by decide)).trans ((upR_ne (by decide)).trans HE2.out))
        have hfr7 := from_vI w6 (.slice sa (SN k) sc) 39
        have HC7A : Hid (Chg (fun _ => False) w1 (w6.alloc (.cells #[.slice sa (SN k) sc] 39))) := chg_then HC6Z.out c7A
        have HW7A : Hid _ := hw7A
        have hB7 := HC7A.out.size
        clear c7A hw7A
        go_wp2_with (at_builtin; refine wpList_append_moved rfl _ _ 50 rfl w1.heap.size 39 jp (.slice none 0 0) 1 24 Tryd.underlying50 hjp hp0 hp1 hp2 rfl (by decide) _ k (pvs) rfl (some ⟨w6.heap.size, 0, none⟩) 1 1 rfl [.slice sa (SN k) sc] hown7 hfr7 (one1 _ rfl) (by unfold maxLen; omega) (by omega) hB7 ?_)
        intro v7 w7 ho7 hg7 hm7
        obtain ⟨b7, d7, rfl⟩ := form1 ho7
        have HW7 : Hid _ := HW7A.out.grow ((upR_ne (by decide)).trans ((upR_ne (by decide)).trans HE2.out)) ho7 hg7 hm7
        have HC7Z : Hid (Chg (fun _ => False) w1 w7) := HC7A.out.grown hg7 (fun g e => .inr ((hown7.lt g e).1))
        clear ho7 hg7 hm7 hown7 hfr7 HW7A HC7A hB7 HW6
        have hcv8 : (convert 22 9 (.slice oa (BB k).length oc)).run Tryd.prog w7 = .ok (.string (strOfNums (nums (BB k)))) w7 := conv_own (HW7.out.own (1, k) _ ((upR_ne (by simp)).trans ((upR_ne (by simp)).trans ((upR_ne (by simp)).trans HEB.out))))
        have c8A := chg_one w7 (.cells #[.string (strOfNums (nums (BB k)))] 9)
        have hw8A := HW7.out.new c8A
        have hown8 := hw8A.own _ _ ((upR_ne (by decide)).trans ((upR_ne (by decide)).trans ((upR_ne (by decide)).trans HE3.out)))
        have hfr8 := from_vI w7 (.string (strOfNums (nums (BB k)))) 9
        have HC8A : Hid (Chg (fun _ => False) w1 (w7.alloc (.cells #[.string (strOfNums (nums (BB k)))] 9))) := chg_then HC7Z.out c8A
        have HW8A : Hid _ := hw8A
        have hB8 := HC8A.out.size
        clear c8A hw8A
        go_wp2_with (at_builtin; refine wpList_append_moved rfl _ _ 51 rfl w1.heap.size 9 js (.string ByteArray.empty) 1 16 Tryd.underlying51 hjs hs0 hs1 hs2 rfl (by decide) _ k ((List.range k).map fun j => .string (strOfNums (nums (BB j)))) rfl (some ⟨w7.heap.size, 0, none⟩) 1 1 rfl [.string (strOfNums (nums (BB k)))] hown8 hfr8 (one1 _ rfl) (by unfold maxLen; omega) (by omega) hB8 ?_)
        intro v8 w8 ho8 hg8 hm8
        obtain ⟨b8, d8, rfl⟩ := form1 ho8
        have HW8 : Hid _ := HW8A.out.grow ((upR_ne (by decide)).trans ((upR_ne (by decide)).trans ((upR_ne (by decide)).trans HE3.out))) ho8 hg8 hm8
        have HC8Z : Hid (Chg (fun _ => False) w1 w8) := HC8A.out.grown hg8 (fun g e => .inr ((hown8.lt g e).1))
        clear ho8 hg8 hm8 hown8 hfr8 HW8A HC8A hB8 HW7
        have c9A := chg_one w8 (.cells #[.slice (SD k) (SN k) (SC k)] 23)
        have hw9A := HW8.out.new c9A
        have hown9 := hw9A.own _ _ ((upR_ne (by decide)).trans ((upR_ne (by decide)).trans ((upR_ne (by decide)).trans ((upR_ne (by decide)).trans HE4.out))))
        have hfr9 := from_vI w8 (.slice (SD k) (SN k) (SC k)) 23
        have HC9A : Hid (Chg (fun _ => False) w1 (w8.alloc (.cells #[.slice (SD k) (SN k) (SC k)] 23))) := chg_then HC8Z.out c9A
        have HW9A : Hid _ := hw9A
        have hB9 := HC9A.out.size
        clear c9A hw9A
        go_wp2_with (at_builtin; refine wpList_append_moved rfl _ _ 49 rfl w1.heap.size 23 jr (.slice none 0 0) 1 24 Tryd.underlying49 hjr hr0 hr1 hr2 rfl (by decide) _ k ((List.range k).map fun j => .slice (SD j) (SN j) (SC j)) rfl (some ⟨w8.heap.size, 0, none⟩) 1 1 rfl [.slice (SD k) (SN k) (SC k)] hown9 hfr9 (one1 _ rfl) (by unfold maxLen; omega) (by omega) hB9 ?_)
        intro v9 w9 ho9 hg9 hm9
        obtain ⟨b9, d9, rfl⟩ := form1 ho9
        have HW9 : Hid _ := HW9A.out.grow ((upR_ne (by decide)).trans ((upR_ne (by decide)).trans ((upR_ne (by decide)).trans ((upR_ne (by decide)).trans HE4.out)))) ho9 hg9 hm9
        have HC9Z : Hid (Chg (fun _ => False) w1 w9) := HC9A.out.grown hg9 (fun g e => .inr ((hown9.lt g e).1))
        clear ho9 hg9 hm9 hown9 hfr9 HW9A HC9A hB9 HW8
        clear hcv8 HE0 HE1 HE2 HE3 HE4 HEB
        go_wp2
        go_roundw
        case rel =>
          refine ⟨k + 1, by omega, by go_num, bvs ++ [.slice oa (BB k).length oc], rvs ++ [.slice la (SN k) lc], pvs ++ [.slice sa (SN k) sc], _, HW9, ?_, fun j hj => ?_, HC9Z⟩
          · show Fx _ _ _ _ _ _ _ _ _ _ _ _ _ _ _ _ _ _
            rw [← HR3.out]
            exact HF.out.step
          · by_cases e : j = k
            · subst e; exact HRK.out
            · exact HRT.out j (by omega)
        case measure => simp [intOf]; omega
    · obtain rfl : k = 3 := by omega
      have hRT : ∀ j, j < 3 → Ix23.rightB 0 0 (SL j) = true := HRT.out
      obtain ⟨gb, cb, hub, hcb, _, _, _⟩ := own_at (HW.out.own _ _ HF.out.c0) (show 0 < 3 by decide)
      obtain ⟨gr, cr, hur, hcr, _, _, _⟩ := own_at (HW.out.own _ _ HF.out.c1) (show 0 < 3 by decide)
      obtain ⟨gp, cp, hup, hcp, _, _, _⟩ := own_at (HW.out.own _ _ HF.out.c2) (show 0 < 3 by decide)
      obtain ⟨gw, cw, huw, hcw, _, _, _⟩ := own_at (HW.out.own _ _ HF.out.c3) (show 0 < 3 by decide)
      obtain ⟨gl, cl, hul, hcl, _, _, _⟩ := own_at (HW.out.own _ _ HF.out.c4) (show 0 < 3 by decide)
      simp only at hub hur hup huw hul
      subst hub hur hup huw hul
      have HWA : Hid (Rws w1.heap.size wr R) := HW
      have HFA : Hid (Fx (fun j => .slice (SD j) (SN j) (SC j)) (fun j => strOfNums (nums (BB j))) R 3 (.slice (some ⟨gb, 0, none⟩) 3 cb) (.slice (some ⟨gr, 0, none⟩) 3 cr) (.slice (some ⟨gp, 0, none⟩) 3 cp) (.slice (some ⟨gw, 0, none⟩) 3 cw) (.slice (some ⟨gl, 0, none⟩) 3 cl) bvs rvs pvs (fun j => (BB j).length) (fun j => ins .u8 (nums (BB j))) SN (fun j => rcs (SL j)) SN (fun j => pls (PP j))) := HF
      have HCWA : Hid (Chg (fun _ => False) w1 wr) := HC
      have HRTA : Hid (∀ j, j < 3 → Ix23.rightB 0 0 (SL j) = true) := hRT
      clear HW HF HC HRT hRT HCI
      generalize wr = wa at *
      go_wp2_with fail
      go_loopw [101] (fun i wr => ∃ k : Nat, k ≤ 3 ∧ i = .int .i64 (k : Int) ∧ Hid (Chg (fun _ => False) wa wr)) (fun i _ => 3 - (intOf i).toNat)
      case atStart => exact ⟨0, by omega, rfl, Chg.refl _ _⟩
      case round =>
        obtain ⟨k, hk, rfl, HC⟩ := hrel
        have hki : (k : Int) ≤ 3 := by omega
        generalize hwq : wr = wq at *
        by_cases hlt : k < 3
        · have d1 : decide ((k : Int) < 3) = true := decide_eq_true (by omega)
          have d1' : decide (k < 3) = true := decide_eq_true hlt
          have hki3 : (k : Int) < 3 := by omega
          have HWr : Hid (Rws w1.heap.size wq R) := HWA.out.new HC.out
          obtain ⟨vb, hvb⟩ : ∃ v, bvs[k]? = some v := ⟨bvs[k]'(by rw [HFA.out.lb]; exact hlt), List.getElem?_eq_getElem _⟩
          obtain ⟨vr, hvr⟩ : ∃ v, rvs[k]? = some v := ⟨rvs[k]'(by rw [HFA.out.lr]; exact hlt), List.getElem?_eq_getElem _⟩
          obtain ⟨vp, hvp⟩ : ∃ v, pvs[k]? = some v := ⟨pvs[k]'(by rw [HFA.out.lp]; exact hlt), List.getElem?_eq_getElem _⟩
          have ob := HWr.out.own _ _ (HFA.out.cb k vb hvb)
          have orr := HWr.out.own _ _ (HFA.out.cr k vr hvr)
          have op := HWr.out.own _ _ (HFA.out.cp k vp hvp)
          simp only at ob orr op
          obtain ⟨ba, bc, rfl⟩ := form1 ob
          obtain ⟨ra, rc, rfl, _⟩ := formI orr
          obtain ⟨pa, pc, rfl, _⟩ := formI op
          have kb := outer_at (HWr.out.own _ _ HFA.out.c0) rfl hvb
          have kr := outer_at (HWr.out.own _ _ HFA.out.c1) rfl hvr
          have kp := outer_at (HWr.out.own _ _ HFA.out.c2) rfl hvp
          have kw : wq.cell? ⟨gw, k, none⟩ = some (.string (strOfNums (nums (BB k)))) := outer_at (HWr.out.own _ _ HFA.out.c3) rfl (range_at hlt (fun j => .string (strOfNums (nums (BB j)))))
          have kl : wq.cell? ⟨gl, k, none⟩ = some (.slice (SD k) (SN k) (SC k)) := outer_at (HWr.out.own _ _ HFA.out.c4) rfl (range_at hlt (fun j => .slice (SD j) (SN j) (SC j)))
          have hcv : ∀ nq, (convert 22 9 (.slice ba (BB k).length bc)).run Tryd.prog (wq.drewN nq) = .ok (.string (strOfNums (nums (BB k)))) (wq.drewN nq) := fun nq => conv_own (owns_keepI ob (chg_drewN wq nq) (fun _ _ f => f))
          have hrf : RcF wq ra (SN k) rc (SL k) := by
            have h9 : RcO wq w1.heap.size (.slice ra (SN k) rc) (SL k) := by unfold RcO; rw [HLL.out]; exact orr
            have h8 := RcO.F h9 (HSF.out k).rng
            exact h8
          have HCW0 : Hid (Chg (fun _ => False) w0 wq) := chg_then HCA.out (chg_then HCWA.out HC.out)
          have HSAME : Hid (∀ n, Calls Tryd.prog 13 #[.slice ra (SN k) rc, .slice (SD k) (SN k) (SC k)] (wq.drewN n) fun e w' => e = .returned (.bool true) ∧ ∃ m, w' = (wq.drewN n).drewN m) := fun n => sameR_any _ _ _ _ _ (SL k) _ (hrf.new (chg_drewN wq n)) ((HSF.out k).new (chg_then HCW0.out (chg_drewN wq n))) (by have := HNB.out k; omega)
          have HOP : Hid (wq.ownsRow w1.heap.size 45 4 (.slice pa (SN k) pc) (SN k) (pls (PP k))) := op
          have hnk : SN k ≤ 1048576 := HNB.out k
          have hnki : (SN k : Int) ≤ 1048576 := by omega
          obtain ⟨s1, hs1⟩ : ∃ s, strOfNums (nums (BB k)) = s := ⟨_, rfl⟩
          simp only [hs1] at hcv kw
          have q1 : (s1.toList != s1.toList) = false := by simp
          have q1' : (s1.toList == s1.toList) = true := by simp
          have q2 : ((SN k : Int) != (SN k : Int)) = false := by simp
          generalize (BB k).length = bl at *
          clear ob orr op hvb hvr hvp hrf hs1
          go_upto_region 22 with fail
          go_quiet (exact Calls.quiet_of (HSAME.out _))
          have HCQ : Hid (Chg (fun _ => False) wq (wq.drewN nq)) := chg_drewN wq nq
          have HKP : Hid _ := kp
          have HKL : Hid _ := kl
          have kp2 := cell_chg kp HCQ.out
          clear hcv kb kr kw kl kp q1 q1' q2 HSAME
          go_wp2_with fail
          go_loopw [144] (fun i wr => ∃ j : Nat, j ≤ SN k ∧ i = .int .i64 (j : Int) ∧ Hid (Chg (fun _ => False) wq wr)) (fun i _ => SN k - (intOf i).toNat)
          case atStart => exact ⟨0, by omega, rfl, HCQ.out⟩
          case round =>
            obtain ⟨j, hj, rfl, HCX⟩ := hrel
            have hji : (j : Int) ≤ (SN k : Int) := by omega
            have kp3 := cell_chg HKP.out HCX.out
            have kl3 := cell_chg HKL.out HCX.out
            by_cases hjl : j < SN k
            · have z1 : decide ((j : Int) < (SN k : Int)) = true := decide_eq_true (by omega)
              have z1' : decide (j < SN k) = true := decide_eq_true hjl
              obtain ⟨gq, cq, hpa, hcq, _, hpc, _⟩ := own_at (owns_keepI HOP.out HCX.out (fun _ _ f => f)) (show 0 < SN k by omega)
              simp only [Value.slice.injEq] at hpa
              obtain ⟨rfl, -, rfl⟩ := hpa
              obtain ⟨q, bx, ox, hq, hqI, hab, y0, y1⟩ := ((HSF.out k).new (chg_then HCW0.out HCX.out)).at hjl
              obtain ⟨p, hp, hpr⟩ := HPK.out k j q hq
              obtain ⟨_, p1, p2, _⟩ := pls_at _ _ _ hp
              have x1 := hpc _ _ p1
              have x2 := hpc _ _ p2
              rw [hpr] at x1 x2
              rw [hab] at kl3
              obtain ⟨u, s⟩ := q
              simp only at x1 x2 y0 y1
              have e1 : (u != u) = false := by simp
              have e2 : (s != s) = false := by simp
              clear hq hqI hp hpr p1 p2 hpc hab
              go_upto_region 27 with fail
              go_quiet (fail)
              have HCX2 : Hid (Chg (fun _ => False) wq (wr.drewN nq)) := chg_then HCX.out (chg_drewN wr nq)
              go_wp2
              go_roundw
              case rel => exact ⟨j + 1, by omega, by go_num, HCX2⟩
              case measure => simp [intOf]; omega
            · obtain rfl : j = SN k := by omega
              have z1 : decide ((SN k : Int) < (SN k : Int)) = false := decide_eq_false (by omega)
              go_wp2
              go_roundw
              case rel => exact ⟨k + 1, by omega, by go_num, chg_then HC.out HCX.out⟩
              case measure => simp [intOf]; omega
        · obtain rfl : k = 3 := by omega
          have HW3 : Hid (Rws w1.heap.size wq R) := HWA.out.new HC.out
          have HF3 : Hid (Fx (fun j => .slice (SD j) (SN j) (SC j)) (fun j => strOfNums (nums (BB j))) R 3 (.slice (some ⟨gb, 0, none⟩) 3 cb) (.slice (some ⟨gr, 0, none⟩) 3 cr) (.slice (some ⟨gp, 0, none⟩) 3 cp) (.slice (some ⟨gw, 0, none⟩) 3 cw) (.slice (some ⟨gl, 0, none⟩) 3 cl) bvs rvs pvs (fun j => (BB j).length) (XA BB 0) SN (fun j => rcs (YA SL 0 j)) SN (fun j => pls (ZA PP 0 j))) := HFA.out.cast (fun _ => rfl) (fun _ => rfl) (fun _ => rfl) (fun _ => rfl) (fun _ => rfl) (fun _ => rfl)
          have HC3 : Hid (Chg (fun _ => False) w1 wq) := chg_then HCWA.out HC.out
          clear HWA HFA HC HCWA hwq
          generalize wq = wb at *
          go_wp2_with fail
          go_loopw [167] (fun i wr => ∃ k : Nat, k ≤ 3 ∧ i = .int .i64 (k : Int) ∧ ∃ R, Hid (Rws w1.heap.size wr R) ∧ Hid (Fx (fun j => .slice (SD j) (SN j) (SC j)) (fun j => strOfNums (nums (BB j))) R 3 (.slice (some ⟨gb, 0, none⟩) 3 cb) (.slice (some ⟨gr, 0, none⟩) 3 cr) (.slice (some ⟨gp, 0, none⟩) 3 cp) (.slice (some ⟨gw, 0, none⟩) 3 cw) (.slice (some ⟨gl, 0, none⟩) 3 cl) bvs rvs pvs (fun j => (BB j).length) (XA BB k) SN (fun j => rcs (YA SL k j)) SN (fun j => pls (ZA PP k j))) ∧ Hid (Chg (fun _ => False) w1 wr)) (fun i _ => 3 - (intOf i).toNat)
          case atStart => exact ⟨0, by omega, rfl, R, HW3, HF3, HC3⟩
          case round =>
            clear HW3 HF3 HC3
            obtain ⟨k, hk, rfl, R, HW, HF, HC⟩ := hrel
            have hki : (k : Int) ≤ 3 := by omega
            by_cases hlt : k < 3
            · have d1 : decide ((k : Int) < 3) = true := decide_eq_true (by omega)
              have d1' : decide (k < 3) = true := decide_eq_true hlt
              have hki3 : (k : Int) < 3 := by omega
              obtain ⟨vb, hvb⟩ : ∃ v, bvs[k]? = some v := ⟨bvs[k]'(by rw [HF.out.lb]; exact hlt), List.getElem?_eq_getElem _⟩
              obtain ⟨vr, hvr⟩ : ∃ v, rvs[k]? = some v := ⟨rvs[k]'(by rw [HF.out.lr]; exact hlt), List.getElem?_eq_getElem _⟩
              obtain ⟨vp, hvp⟩ : ∃ v, pvs[k]? = some v := ⟨pvs[k]'(by rw [HF.out.lp]; exact hlt), List.getElem?_eq_getElem _⟩
              have ob := HW.out.own _ _ (HF.out.cb k vb hvb)
              have orr := HW.out.own _ _ (HF.out.cr k vr hvr)
              have op := HW.out.own _ _ (HF.out.cp k vp hvp)
              simp only at ob orr op
              obtain ⟨ba, bc, rfl⟩ := form1 ob
              obtain ⟨ra, rc, rfl, _⟩ := formI orr
              obtain ⟨pa, pc, rfl, _⟩ := formI op
              have hbl := HRM.out k
              obtain ⟨bl, hbl2⟩ : ∃ x, (BB k).length = x := ⟨_, rfl⟩
              rw [hbl2] at hvb
              have HVB : Hid _ := hvb
              have HVR : Hid _ := hvr
              have HVP : Hid _ := hvp
              have kb := outer_at (HW.out.own _ _ HF.out.c0) rfl hvb
              have HBL : Hid ((BB k).length = bl) := hbl2
              have hnk := HNB.out k
              have hnki : (SN k : Int) ≤ 1048576 := by omega
              rw [hbl2] at hbl
              have hbli : (bl : Int) ≤ 61572651155500 := by omega
              have hw8 : IntKind.u8.wrap (k : Int) = (k : Int) := by simp [IntKind.wrap, IntKind.signed, IntKind.bits]; omega
              have HF5 : Hid (Fx (fun j => .slice (SD j) (SN j) (SC j)) (fun j => strOfNums (nums (BB j))) R 3 (.slice (some ⟨gb, 0, none⟩) 3 cb) (.slice (some ⟨gr, 0, none⟩) 3 cr) (.slice (some ⟨gp, 0, none⟩) 3 cp) (.slice (some ⟨gw, 0, none⟩) 3 cw) (.slice (some ⟨gl, 0, none⟩) 3 cl) bvs rvs pvs (fun j => (BB j).length) (atI (XA BB k) k (mkL 0 (mB k) (ins .u8 (nums (BB k))))) SN (fun j => rcs (YA SL k j)) SN (fun j => pls (ZA PP k j))) := HF.out.cast (fun _ => rfl) (atI_same _ _ _ (by unfold XA; rw [if_neg (by omega)]; rfl)) (fun _ => rfl) (fun _ => rfl) (fun _ => rfl) (fun _ => rfl)
              clear ob orr op hvb hvr hvp HF hbl2
              go_wp2_with fail
              go_loopw [175] (fun i wr => ∃ q : Nat, q ≤ bl ∧ i = .int .i64 (q : Int) ∧ ∃ R, Hid (Rws w1.heap.size wr R) ∧ Hid (Fx (fun j => .slice (SD j) (SN j) (SC j)) (fun j => strOfNums (nums (BB j))) R 3 (.slice (some ⟨gb, 0, none⟩) 3 cb) (.slice (some ⟨gr, 0, none⟩) 3 cr) (.slice (some ⟨gp, 0, none⟩) 3 cp) (.slice (some ⟨gw, 0, none⟩) 3 cw) (.slice (some ⟨gl, 0, none⟩) 3 cl) bvs rvs pvs (fun j => (BB j).length) (atI (XA BB k) k (mkL q (mB k) (ins .u8 (nums (BB k))))) SN (fun j => rcs (YA SL k j)) SN (fun j => pls (ZA PP k j))) ∧ Hid (Chg (fun _ => False) w1 wr)) (fun i _ => bl - (intOf i).toNat)
              case atStart => exact ⟨0, by omega, rfl, R, HW, HF5, HC⟩
              case round =>
                clear HF5 HW HC kb
                obtain ⟨q, hq, rfl, R, HW, HF, HC⟩ := hrel
                have hqi : (q : Int) ≤ (bl : Int) := by omega
                by_cases hql : q < bl
                · have z1 : decide ((q : Int) < (bl : Int)) = true := decide_eq_true (by omega)
                  have z1' : decide (q < bl) = true := decide_eq_true hql
                  have hqi2 : (q : Int) < (bl : Int) := by omega
                  have kb := outer_at (HW.out.own _ _ HF.out.c0) rfl HVB.out
                  have hcb := HF.out.cb k _ HVB.out
                  rw [atI_at, HBL.out] at hcb
                  have ob := HW.out.own _ _ hcb
                  simp only at ob
                  obtain ⟨gx, cx, hpa, hcx, _, hpc, hfz⟩ := own_at ob (by omega)
                  simp only [Value.slice.injEq, true_and] at hpa
                  obtain ⟨rfl, rfl⟩ := hpa
                  obtain ⟨xv, hxv⟩ : ∃ x, (mkL q (mB k) (ins .u8 (nums (BB k))))[q]? = some x := ⟨_, List.getElem?_eq_getElem (by rw [mkL_len (by rw [ins_lenN, HBL.out]; exact hq), ins_lenN, HBL.out]; exact hql)⟩
                  have kc := hpc _ _ hxv
                  have kf := hfz q
                  have hos := own_setS ob q (mB k)
                  rw [mkL_set (by rw [ins_lenN, HBL.out]; exact hql)] at hos
                  have HW2 : Hid _ := HW.out.set hcb (xs' := mkL (q + 1) (mB k) (ins .u8 (nums (BB k)))) hos (chg_set.mono (fun z e => by simp [Value.ownBlock, e]))
                  have HF2 : Hid (Fx (fun j => .slice (SD j) (SN j) (SC j)) (fun j => strOfNums (nums (BB j))) _ 3 (.slice (some ⟨gb, 0, none⟩) 3 cb) (.slice (some ⟨gr, 0, none⟩) 3 cr) (.slice (some ⟨gp, 0, none⟩) 3 cp) (.slice (some ⟨gw, 0, none⟩) 3 cw) (.slice (some ⟨gl, 0, none⟩) 3 cl) bvs rvs pvs (fun j => (BB j).length) (atI (XA BB k) k (mkL (q + 1) (mB k) (ins .u8 (nums (BB k))))) SN (fun j => rcs (YA SL k j)) SN (fun j => pls (ZA PP k j))) := (HF.out.wb HVB.out (mkL (q + 1) (mB k) (ins .u8 (nums (BB k))))).cast (fun _ => rfl) (atI_twice _ _ _ _) (fun _ => rfl) (fun _ => rfl) (fun _ => rfl) (fun _ => rfl)
                  have HC2 : Hid (Chg (fun _ => False) w1 (wr.setCell ⟨gx, q, none⟩ (mB k))) := HC.out.trans chg_set (fun z e => .inr (by subst e; exact (ob.lt _ rfl).1))
                  simp only [HBL.out] at HF2
                  unfold mB at HW2 HF2 HC2
                  clear hos hpc hfz ob hcb hxv HF HW HC
                  go_wp2
                  go_roundw
                  case rel => exact ⟨q + 1, by omega, by go_num, _, HW2, HF2, HC2⟩
                  case measure => simp [intOf]; omega
                · obtain rfl : q = bl := by omega
                  have HF6 : Hid (Fx (fun j => .slice (SD j) (SN j) (SC j)) (fun j => strOfNums (nums (BB j))) R 3 (.slice (some ⟨gb, 0, none⟩) 3 cb) (.slice (some ⟨gr, 0, none⟩) 3 cr) (.slice (some ⟨gp, 0, none⟩) 3 cp) (.slice (some ⟨gw, 0, none⟩) 3 cw) (.slice (some ⟨gl, 0, none⟩) 3 cl) bvs rvs pvs (fun j => (BB j).length) (XA BB (k + 1)) SN (fun j => rcs (atI (YA SL k) k (mkL 0 (mR k) (SL k)) j)) SN (fun j => pls (ZA PP k j))) := HF.out.cast (fun _ => rfl) (fun j => by rw [← XA_next, ← HBL.out, ← ins_lenN, mkL_all]) (fun _ => rfl) (fun j => by rw [mkL_zero, ← atI_same _ _ _ (by unfold YA; rw [if_neg (by omega)])]) (fun _ => rfl) (fun _ => rfl)
                  have kx0 := outer_at (HW.out.own _ _ HF6.out.c1) rfl HVR.out
                  clear HF
                  go_wp2_with fail
                  go_loopw [192] (fun i wr => ∃ q : Nat, q ≤ SN k ∧ i = .int .i64 (q : Int) ∧ ∃ R, Hid (Rws w1.heap.size wr R) ∧ Hid (Fx (fun j => .slice (SD j) (SN j) (SC j)) (fun j => strOfNums (nums (BB j))) R 3 (.slice (some ⟨gb, 0, none⟩) 3 cb) (.slice (some ⟨gr, 0, none⟩) 3 cr) (.slice (some ⟨gp, 0, none⟩) 3 cp) (.slice (some ⟨gw, 0, none⟩) 3 cw) (.slice (some ⟨gl, 0, none⟩) 3 cl) bvs rvs pvs (fun j => (BB j).length) (XA BB (k + 1)) SN (fun j => rcs (atI (YA SL k) k (mkL q (mR k) (SL k)) j)) SN (fun j => pls (ZA PP k j))) ∧ Hid (Chg (fun _ => False) w1 wr)) (fun i _ => SN k - (intOf i).toNat)
                  case atStart => exact ⟨0, by omega, rfl, R, HW, HF6, HC⟩
                  case round =>
                    clear HF6 HW HC kx0
                    obtain ⟨q, hq, rfl, R, HW, HF, HC⟩ := hrel
                    have hqi : (q : Int) ≤ (SN k : Int) := by omega
                    by_cases hql : q < SN k
                    · have z1 : decide ((q : Int) < (SN k : Int)) = true := decide_eq_true (by omega)
                      have z1' : decide (q < SN k) = true := decide_eq_true hql
                      have hqi2 : (q : Int) < (SN k : Int) := by omega
                      have kb := outer_at (HW.out.own _ _ HF.out.c1) rfl HVR.out
                      have hcb := HF.out.cr k _ HVR.out
                      rw [atI_at] at hcb
                      have ob := HW.out.own _ _ hcb
                      simp only at ob
                      obtain ⟨gx, cx, hpa, hcx, _, hpc, hfz⟩ := own_at ob (by omega)
                      simp only [Value.slice.injEq, true_and] at hpa
                      obtain ⟨rfl, rfl⟩ := hpa
                      have hml : (mkL q (mR k) (SL k)).length = SN k := by rw [mkL_len (by rw [HLL.out]; exact hq), HLL.out]
                      have hcl : (rcs (mkL q (mR k) (SL k))).length = SN k * 2 := by rw [rcs_len, hml]
                      obtain ⟨xv0, hxv0⟩ : ∃ x, (rcs (mkL q (mR k) (SL k)))[q * 2]? = some x := ⟨_, List.getElem?_eq_getElem (by omega)⟩
                      have kc0 := row_cell ob hxv0
                      have kf0 := row_free ob (q * 2)
                      have o0 := own_setS ob (q * 2) (.int .i64 (-1 - (k : Int)))
                      obtain ⟨xv1, hxv1⟩ : ∃ x, ((rcs (mkL q (mR k) (SL k))).set (q * 2) (.int .i64 (-1 - (k : Int))))[q * 2 + 1]? = some x := ⟨_, List.getElem?_eq_getElem (by simp only [List.length_set]; omega)⟩
                      have kc1 := row_cell o0 hxv1
                      have kf1 := row_free o0 (q * 2 + 1)
                      have o1 := own_setS o0 (q * 2 + 1) (.int .i64 0)
                      rw [rcs_set, show (⟨-1 - (k : Int), 0⟩ : Rec) = mR k from rfl, mkL_set (by rw [HLL.out]; exact hql)] at o1
                      have hCg : Chg (fun z => z = gx) wr (((wr).setCell ⟨gx, q * 2, none⟩ (.int .i64 (-1 - (k : Int)))).setCell ⟨gx, q * 2 + 1, none⟩ (.int .i64 0)) := (chg_set).trans chg_set (fun z e => .inl e)
                      have HW2 : Hid _ := HW.out.set hcb (xs' := rcs (mkL (q + 1) (mR k) (SL k))) o1 (hCg.mono (fun z e => by simp [Value.ownBlock, e]))
                      have HF2 : Hid (Fx (fun j => .slice (SD j) (SN j) (SC j)) (fun j => strOfNums (nums (BB j))) _ 3 (.slice (some ⟨gb, 0, none⟩) 3 cb) (.slice (some ⟨gr, 0, none⟩) 3 cr) (.slice (some ⟨gp, 0, none⟩) 3 cp) (.slice (some ⟨gw, 0, none⟩) 3 cw) (.slice (some ⟨gl, 0, none⟩) 3 cl) bvs rvs pvs (fun j => (BB j).length) (XA BB (k + 1)) SN (fun j => rcs (atI (YA SL k) k (mkL (q + 1) (mR k) (SL k)) j)) SN (fun j => pls (ZA PP k j))) := (HF.out.wr HVR.out (rcs (mkL (q + 1) (mR k) (SL k)))).cast (fun _ => rfl) (fun _ => rfl) (fun _ => rfl) (atI_f rcs _ _ _ _) (fun _ => rfl) (fun _ => rfl)
                      have HC2 : Hid (Chg (fun _ => False) w1 (((wr).setCell ⟨gx, q * 2, none⟩ (.int .i64 (-1 - (k : Int)))).setCell ⟨gx, q * 2 + 1, none⟩ (.int .i64 0))) := HC.out.trans hCg (fun z e => .inr (by subst e; exact (ob.lt _ rfl).1))
                      clear hpc hfz hcb hxv0 hxv1 o0 o1 ob HF HW HC hCg hml hcl
                      go_wp2
                      go_roundw
                      case rel => exact ⟨q + 1, by omega, by go_num, _, HW2, HF2, HC2⟩
                      case measure => simp [intOf]; omega
                    · obtain rfl : q = SN k := by omega
                      have HF6 : Hid (Fx (fun j => .slice (SD j) (SN j) (SC j)) (fun j => strOfNums (nums (BB j))) R 3 (.slice (some ⟨gb, 0, none⟩) 3 cb) (.slice (some ⟨gr, 0, none⟩) 3 cr) (.slice (some ⟨gp, 0, none⟩) 3 cp) (.slice (some ⟨gw, 0, none⟩) 3 cw) (.slice (some ⟨gl, 0, none⟩) 3 cl) bvs rvs pvs (fun j => (BB j).length) (XA BB (k + 1)) SN (fun j => rcs (YA SL (k + 1) j)) SN (fun j => pls (atI (ZA PP k) k (mkL 0 (mP k) (PP k)) j))) := HF.out.cast (fun _ => rfl) (fun _ => rfl) (fun _ => rfl) (fun j => by rw [← YA_next, ← HLL.out, mkL_all]) (fun _ => rfl) (fun j => by rw [mkL_zero, ← atI_same _ _ _ (by unfold ZA; rw [if_neg (by omega)])])
                      have kx0 := outer_at (HW.out.own _ _ HF6.out.c2) rfl HVP.out
                      clear HF
                      go_wp2_with fail
                      go_loopw [210] (fun i wr => ∃ q : Nat, q ≤ SN k ∧ i = .int .i64 (q : Int) ∧ ∃ R, Hid (Rws w1.heap.size wr R) ∧ Hid (Fx (fun j => .slice (SD j) (SN j) (SC j)) (fun j => strOfNums (nums (BB j))) R 3 (.slice (some ⟨gb, 0, none⟩) 3 cb) (.slice (some ⟨gr, 0, none⟩) 3 cr) (.slice (some ⟨gp, 0, none⟩) 3 cp) (.slice (some ⟨gw, 0, none⟩) 3 cw) (.slice (some ⟨gl, 0, none⟩) 3 cl) bvs rvs pvs (fun j => (BB j).length) (XA BB (k + 1)) SN (fun j => rcs (YA SL (k + 1) j)) SN (fun j => pls (atI (ZA PP k) k (mkL q (mP k) (PP k)) j))) ∧ Hid (Chg (fun _ => False) w1 wr)) (fun i _ => SN k - (intOf i).toNat)
                      case atStart => exact ⟨0, by omega, rfl, R, HW, HF6, HC⟩
                      case round =>
                        clear HF6 HW HC kx0
                        obtain ⟨q, hq, rfl, R, HW, HF, HC⟩ := hrel
                        have hqi : (q : Int) ≤ (SN k : Int) := by omega
                        by_cases hql : q < SN k
                        · have z1 : decide ((q : Int) < (SN k : Int)) = true := decide_eq_true (by omega)
                          have z1' : decide (q < SN k) = true := decide_eq_true hql
                          have hqi2 : (q : Int) < (SN k : Int) := by omega
                          have kb := outer_at (HW.out.own _ _ HF.out.c2) rfl HVP.out
                          have hcb := HF.out.cp k _ HVP.out
                          rw [atI_at] at hcb
                          have ob := HW.out.own _ _ hcb
                          simp only at ob
                          obtain ⟨gx, cx, hpa, hcx, _, hpc, hfz⟩ := own_at ob (by omega)
                          simp only [Value.slice.injEq, true_and] at hpa
                          obtain ⟨rfl, rfl⟩ := hpa
                          have hml : (mkL q (mP k) (PP k)).length = SN k := by rw [mkL_len (by rw [HPN.out]; exact hq), HPN.out]
                          have hcl : (pls (mkL q (mP k) (PP k))).length = SN k * 4 := by rw [pls_len, hml]
                          obtain ⟨xv0, hxv0⟩ : ∃ x, (pls (mkL q (mP k) (PP k)))[q * 4]? = some x := ⟨_, List.getElem?_eq_getElem (by omega)⟩
                          have kc0 := row_cell ob hxv0
                          have kf0 := row_free ob (q * 4)
                          have o0 := own_setS ob (q * 4) (.int .i64 (-1 - (k : Int)))
                          obtain ⟨xv1, hxv1⟩ : ∃ x, ((pls (mkL q (mP k) (PP k))).set (q * 4) (.int .i64 (-1 - (k : Int))))[q * 4 + 1]? = some x := ⟨_, List.getElem?_eq_getElem (by simp only [List.length_set]; omega)⟩
                          have kc1 := row_cell o0 hxv1
                          have kf1 := row_free o0 (q * 4 + 1)
                          have o1 := own_setS o0 (q * 4 + 1) (.int .i64 0)
                          obtain ⟨xv2, hxv2⟩ : ∃ x, (((pls (mkL q (mP k) (PP k))).set (q * 4) (.int .i64 (-1 - (k : Int)))).set (q * 4 + 1) (.int .i64 0))[q * 4 + 2]? = some x := ⟨_, List.getElem?_eq_getElem (by simp only [List.length_set]; omega)⟩
                          have kc2 := row_cell o1 hxv2
                          have kf2 := row_free o1 (q * 4 + 2)
                          have o2 := own_setS o1 (q * 4 + 2) (.int .i64 0)
                          obtain ⟨xv3, hxv3⟩ : ∃ x, ((((pls (mkL q (mP k) (PP k))).set (q * 4) (.int .i64 (-1 - (k : Int)))).set (q * 4 + 1) (.int .i64 0)).set (q * 4 + 2) (.int .i64 0))[q * 4 + 3]? = some x := ⟨_, List.getElem?_eq_getElem (by simp only [List.length_set]; omega)⟩
                          have kc3 := row_cell o2 hxv3
                          have kf3 := row_free o2 (q * 4 + 3)
                          have o3 := own_setS o2 (q * 4 + 3) (.int .i64 0)
                          rw [pls_set, show (⟨-1 - (k : Int), ⟨0, 0⟩, 0⟩ : Plc) = mP k from rfl, mkL_set (by rw [HPN.out]; exact hql)] at o3
                          have hCg : Chg (fun z => z = gx) wr (((((wr).setCell ⟨gx, q * 4, none⟩ (.int .i64 (-1 - (k : Int)))).setCell ⟨gx, q * 4 + 1, none⟩ (.int .i64 0)).setCell ⟨gx, q * 4 + 2, none⟩ (.int .i64 0)).setCell ⟨gx, q * 4 + 3, none⟩ (.int .i64 0)) := (((chg_set).trans chg_set (fun z e => .inl e)).trans chg_set (fun z e => .inl e)).trans chg_set (fun z e => .inl e)
                          have HW2 : Hid _ := HW.out.set hcb (xs' := pls (mkL (q + 1) (mP k) (PP k))) o3 (hCg.mono (fun z e => by simp [Value.ownBlock, e]))
                          have HF2 : Hid (Fx (fun j => .slice (SD j) (SN j) (SC j)) (fun j => strOfNums (nums (BB j))) _ 3 (.slice (some ⟨gb, 0, none⟩) 3 cb) (.slice (some ⟨gr, 0, none⟩) 3 cr) (.slice (some ⟨gp, 0, none⟩) 3 cp) (.slice (some ⟨gw, 0, none⟩) 3 cw) (.slice (some ⟨gl, 0, none⟩) 3 cl) bvs rvs pvs (fun j => (BB j).length) (XA BB (k + 1)) SN (fun j => rcs (YA SL (k + 1) j)) SN (fun j => pls (atI (ZA PP k) k (mkL (q + 1) (mP k) (PP k)) j))) := (HF.out.wp HVP.out (pls (mkL (q + 1) (mP k) (PP k)))).cast (fun _ => rfl) (fun _ => rfl) (fun _ => rfl) (fun _ => rfl) (fun _ => rfl) (atI_f pls _ _ _ _)
                          have HC2 : Hid (Chg (fun _ => False) w1 (((((wr).setCell ⟨gx, q * 4, none⟩ (.int .i64 (-1 - (k : Int)))).setCell ⟨gx, q * 4 + 1, none⟩ (.int .i64 0)).setCell ⟨gx, q * 4 + 2, none⟩ (.int .i64 0)).setCell ⟨gx, q * 4 + 3, none⟩ (.int .i64 0))) := HC.out.trans hCg (fun z e => .inr (by subst e; exact (ob.lt _ rfl).1))
                          clear hpc hfz hcb hxv0 hxv1 hxv2 hxv3 o0 o1 o2 o3 ob HF HW HC hCg hml hcl
                          go_wp2
                          go_roundw
                          case rel => exact ⟨q + 1, by omega, by go_num, _, HW2, HF2, HC2⟩
                          case measure => simp [intOf]; omega
                        · obtain rfl : q = SN k := by omega
                          have HF9 : Hid (Fx (fun j => .slice (SD j) (SN j) (SC j)) (fun j => strOfNums (nums (BB j))) R 3 (.slice (some ⟨gb, 0, none⟩) 3 cb) (.slice (some ⟨gr, 0, none⟩) 3 cr) (.slice (some ⟨gp, 0, none⟩) 3 cp) (.slice (some ⟨gw, 0, none⟩) 3 cw) (.slice (some ⟨gl, 0, none⟩) 3 cl) bvs rvs pvs (fun j => (BB j).length) (XA BB (k + 1)) SN (fun j => rcs (YA SL (k + 1) j)) SN (fun j => pls (ZA PP (k + 1) j))) := HF.out.cast (fun _ => rfl) (fun _ => rfl) (fun _ => rfl) (fun _ => rfl) (fun _ => rfl) (fun j => by rw [← ZA_next, ← HPN.out, mkL_all])
                          go_wp2
                          go_roundw
                          case rel => exact ⟨k + 1, by omega, by go_num, R, HW, HF9, HC⟩
                          case measure => simp [intOf]; omega
            · obtain rfl : k = 3 := by omega
              as_aux_lemma =>
                have HW8 : Hid (Rws w1.heap.size wr R) := HW
                have HF8 : Hid (Fx (fun j => .slice (SD j) (SN j) (SC j)) (fun j => strOfNums (nums (BB j))) R 3 (.slice (some ⟨gb, 0, none⟩) 3 cb) (.slice (some ⟨gr, 0, none⟩) 3 cr) (.slice (some ⟨gp, 0, none⟩) 3 cp) (.slice (some ⟨gw, 0, none⟩) 3 cw) (.slice (some ⟨gl, 0, none⟩) 3 cl) bvs rvs pvs (tN 300 (fun j => (BB j).length) (0)) (tX sB (XA BB 3) (0)) (tN 1 SN (0)) (tX sR (fun j => rcs (YA SL 3 j)) (0)) (tN 1 SN (0)) (tX sP (fun j => pls (ZA PP 3 j)) (0))) := HF.out.cast (fun _ => rfl) (fun _ => rfl) (fun _ => rfl) (fun _ => rfl) (fun _ => rfl) (fun _ => rfl)
                have HC8 : Hid (Chg (fun _ => False) w1 wr) := HC
                clear HW HF HC
                generalize wr = wc at *
                go_wp2_with fail
                go_loopw [226] (fun i wr => ∃ k : Nat, k ≤ 3 ∧ i = .int .i64 (k : Int) ∧ ∃ bvs rvs pvs R, Hid (Rws w1.heap.size wr R) ∧ Hid (Fx (fun j => .slice (SD j) (SN j) (SC j)) (fun j => strOfNums (nums (BB j))) R 3 (.slice (some ⟨gb, 0, none⟩) 3 cb) (.slice (some ⟨gr, 0, none⟩) 3 cr) (.slice (some ⟨gp, 0, none⟩) 3 cp) (.slice (some ⟨gw, 0, none⟩) 3 cw) (.slice (some ⟨gl, 0, none⟩) 3 cl) bvs rvs pvs (tN 300 (fun j => (BB j).length) (k)) (tX sB (XA BB 3) (k)) (tN 1 SN (k)) (tX sR (fun j => rcs (YA SL 3 j)) (k)) (tN 1 SN (k)) (tX sP (fun j => pls (ZA PP 3 j)) (k))) ∧ Hid (Chg (fun _ => False) w1 wr)) (fun i _ => 3 - (intOf i).toNat)
                case atStart => exact ⟨0, by omega, rfl, bvs, rvs, pvs, R, HW8, HF8, HC8⟩
                case round =>
                  clear HW8 HF8 HC8
                  obtain ⟨k, hk, rfl, bvs, rvs, pvs, R, HW, HF, HC⟩ := hrel
                  have hki : (k : Int) ≤ 3 := by omega
                  by_cases hlt : k < 3
                  · have d1 : decide ((k : Int) < 3) = true := decide_eq_true (by omega)
                    have d1' : decide (k < 3) = true := decide_eq_true hlt
                    have hki3 : (k : Int) < 3 := by omega
                    obtain ⟨vb, hvb⟩ : ∃ v, bvs[k]? = some v := ⟨bvs[k]'(by rw [HF.out.lb]; exact hlt), List.getElem?_eq_getElem _⟩
                    obtain ⟨vr, hvr⟩ : ∃ v, rvs[k]? = some v := ⟨rvs[k]'(by rw [HF.out.lr]; exact hlt), List.getElem?_eq_getElem _⟩
                    obtain ⟨vp, hvp⟩ : ∃ v, pvs[k]? = some v := ⟨pvs[k]'(by rw [HF.out.lp]; exact hlt), List.getElem?_eq_getElem _⟩
                    have eb := HF.out.cb k vb hvb
                    have er := HF.out.cr k vr hvr
                    have ep := HF.out.cp k vp hvp
                    simp only [tN_at, tX_at] at eb er ep
                    obtain ⟨bl, hbl⟩ : ∃ bl, (BB k).length = bl := ⟨_, rfl⟩
                    have hbb := HRM.out k
                    rw [hbl] at eb hbb
                    have HBL : Hid ((BB k).length = bl) := hbl
                    obtain ⟨m, hm⟩ : ∃ m, SN k = m := ⟨_, rfl⟩
                    have hmm := HNB.out k
                    rw [hm] at er ep hmm
                    have HM : Hid (SN k = m) := hm
                    have ob := HW.out.own _ _ eb
                    have orr := HW.out.own _ _ er
                    have op := HW.out.own _ _ ep
                    simp only at ob orr op
                    obtain ⟨ba, bc, rfl⟩ := form1 ob
                    obtain ⟨ra, rc, rfl, _⟩ := formI orr
                    obtain ⟨pa, pc, rfl, _⟩ := formI op
                    have kb := outer_at (HW.out.own _ _ HF.out.c0) rfl hvb
                    have HEB : Hid _ := eb
                    have HER : Hid _ := er
                    have HEP : Hid _ := ep
                    have HVB : Hid _ := hvb
                    have HVR : Hid _ := hvr
                    have HVP : Hid _ := hvp
                    have HTL : Hid (∀ ww, Calls Tryd.prog 16 #[.int .i64 (k : Int)] ww fun e w' => ∃ p, e = .returned p ∧ ByO w' ww.heap.size p (List.replicate 300 (100 + k)) ∧ Chg (fun _ => False) ww w') := fun ww => tail23_any k ww (by omega)
                    clear ob orr op eb er ep hvb hvr hvp hbl hm
                    as_aux_lemma =>
                      go_upto_region 53 with fail
                      refine wp_region_phaseQ (mk := fun u => #[_, _, _, _, _, _, _, _, _, _, _, _, _, _, _, _, _, _, _, _, _, _, _, _, _, _, _, _, _, _, _, _, _, _, _, _, _, _, _, _, _, _, _, _, _, _, _, _, _, _, _, _, _, _, _, _, _, _, _, _, _, _, _, _, _, _, _, _, _, _, _, _, _, _, _, _, _, _, _, _, _, _, _, _, _, _, _, _, _, _, _, _, _, _, _, _, _, _, _, _, _, _, _, _, _, _, _, _, _, _, _, _, _, _, _, _, _, _, _, _, _, _, _, _, _, _, _, _, _, _, _, _, _, _, _, _, _, _, _, _, _, _, _, _, _, _, _, _, _, _, _, _, _, _, _, _, _, _, _, _, _, _, _, _, _, _, _, _, _, _, _, _, _, _, _, _, _, _, _, _, _, _, _, _, _, _, _, _, _, _, _, _, _, _, _, _, _, _, _, _, _, _, _, _, _, _, _, _, _, _, _, _, _, _, _, _, _, _, _, _, _, _, _, _, _, _, _, _, _, u 229, u 230, u 231, u 232, u 233, u 234, u 235, u 236, u 237, u 238, _, _, _, _, _, _, _, _, _, _, _, _, _, _, _, _, _, _, _, _, _, _, _, _, _, _, _, _, _, _, _, _, _, _, _, _, _, _, _, _, _, _, _, _, _, _, _, _, _, _, _, _, _, _, _, _, _, _, _, _, _, _, _, _, _, _, _, _, _, _, _, _, _, _, _, _, _, _, _, _, _, _, _, _, _, _, _, _, _, _, _, _, _, _, _, _, _, _, _, _, _, _, _, _, _, _, _, _, _, _, _, _, _, _, _, _, _, _, _, _, _, _, _]) (G := lookG [(229, .slice (some ⟨gb, 0, none⟩) 3 cb), (230, .int .i64 (k : Int)), (231, .slice (some ⟨gb, 0, none⟩) 3 cb), (232, .int .i64 (k : Int)), (233, .pointer (some ⟨gb, k, none⟩)), (234, .slice ba bl bc), (235, .int .i64 (k : Int)), (238, .pointer (some ⟨gb, k, none⟩))]) (J := fun q u ww => TlJ w1 wr R k bl (XA BB 3 k) q (u 236) (u 237) ww) [7, 8] (fun i => if i = 5 then 1 else 2) ([]) (fun slot => match slot with | 229 => u229 | 230 => u230 | 231 => u231 | 232 => u232 | 233 => u233 | 234 => u234 | 235 => u235 | 236 => u236 | 237 => u237 | 238 => u238 | _ => undef) rfl (by kernel_rfl) 10 _ rfl rfl (by kernel_rfl) (by kernel_rfl) (by kernel_rfl) (by decide) ?_ ?_ ?_ (by kernel_rfl) ?_ ?_
                      · repeat (refine ⟨fun _ _ => rfl, ?_⟩)
                        exact trivial
                      · intro q u u2 ww h hj
                        have e236 : u 236 = u2 236 := h 7 (by decide)
                        have e237 : u 237 = u2 237 := h 8 (by decide)
                        show TlJ _ _ _ _ _ _ _ _ _ _
                        rw [← e236, ← e237]
                        exact hj
                      · exact ⟨fun _ => (Chg.refl _ wr).drew, fun e => absurd e (by omega), fun e => absurd e (by omega)⟩
                      · refine ⟨?_, ?_, ?_, ?_, ?_, ?_, ?_, ?_, ?_, ?_, trivial⟩
                        · show StepRQ _ _ _ _ _ _ _ _ _ -- 229
                          unfold StepRQ
                          intro qn hq u w_ hj hd K hK
                          clear hd
                          go_simp
                          exact hK.out (.slice (some ⟨gb, 0, none⟩) 3 cb) rfl
                        · show StepRQ _ _ _ _ _ _ _ _ _ -- 230
                          unfold StepRQ
                          intro qn hq u w_ hj hd K hK
                          clear hd
                          go_simp
                          exact hK.out (.int .i64 (k : Int)) rfl
                        · show StepRQ _ _ _ _ _ _ _ _ _ -- 231
                          unfold StepRQ
                          intro qn hq u w_ hj hd K hK
                          clear hd
                          go_simp
                          exact hK.out (.slice (some ⟨gb, 0, none⟩) 3 cb) rfl
                        · show StepRQ _ _ _ _ _ _ _ _ _ -- 232
                          unfold StepRQ
                          intro qn hq u w_ hj hd K hK
                          clear hd
                          go_simp
                          exact hK.out (.int .i64 (k : Int)) rfl
                        · show StepRQ _ _ _ _ _ _ _ _ _ -- 233
                          unfold StepRQ
                          intro qn hq u w_ hj hd K hK
                          have h231 : u 231 = .slice (some ⟨gb, 0, none⟩) 3 cb := hd.get 2 (by kernel_rfl)
                          have h232 : u 232 = .int .i64 (k : Int) := hd.get 3 (by kernel_rfl)
                          clear hd
                          simp only [h231, h232] at hK
                          go_simp
                          exact hK.out (.pointer (some ⟨gb, k, none⟩)) rfl
                        · show StepRQ _ _ _ _ _ _ _ _ _ -- 234
                          unfold StepRQ
                          intro qn hq u w_ hj hd K hK
                          have h233 : u 233 = .pointer (some ⟨gb, k, none⟩) := hd.get 4 (by kernel_rfl)
                          clear hd
                          simp only [h233] at hK
                          have x0 := cell_chg kb (hj.1 hq)
                          clear hj
                          go_simp
                          exact hK.out _ rfl
                        · show StepRQ _ _ _ _ _ _ _ _ _ -- 235
                          unfold StepRQ
                          intro qn hq u w_ hj hd K hK
                          clear hd
                          go_simp
                          exact hK.out (.int .i64 (k : Int)) rfl
                        · show StepWQ _ _ _ _ _ _ _ _ _ -- 236
                          unfold StepWQ
                          intro u w_ hj hd K hK
                          have h235 : u 235 = .int .i64 (k : Int) := hd.get 6 (by kernel_rfl)
                          clear hd
                          simp only [h235] at hK
                          have HN9 : Hid _ := hj
                          clear hj
                          go_simp
                          go_at_call 16
                          refine (HTL.out w_).mono ?_
                          rintro z w2 ⟨p9, rfl, hp9, c2⟩
                          obtain ⟨ta, tc, hpe⟩ := byO_form hp9
                          rw [List.length_replicate] at hpe
                          subst hpe
                          exact hK.out _ w2 ⟨fun _ => chg_then (HN9.out.1 (by omega)) c2, fun _ => ⟨ta, tc, rfl, owns_base hp9 (Nat.le_trans HC.out.size (HN9.out.1 (by omega)).size)⟩, fun e => absurd e (by omega)⟩ trivial
                        · show StepWQ _ _ _ _ _ _ _ _ _ -- 237
                          unfold StepWQ
                          intro u w_ hj hd K hK
                          have h234 : u 234 = .slice ba bl bc := hd.get 5 (by kernel_rfl)
                          clear hd
                          obtain ⟨h1, h2, _⟩ := hj
                          obtain ⟨ta, tc, e236, hby⟩ := h2 rfl
                          have hc9 := h1 (by omega)
                          have hw9 := HW.out.new hc9
                          have hoo := hw9.own _ _ HEB.out
                          refine step_append_moved (a := ⟨_, []⟩) (by rfl) (.tmp 234) (.tmp 236) 22 (by rfl) w1.heap.size 5 iu (.int .u8 0) 1 1 Tryd.underlying22 hiu hu0 hu1 hu2 rfl (by decide) (.slice ba bl bc) bl (XA BB 3 k) (by exact h234) ta 300 tc (by exact e236) ((nums (List.replicate 300 (100 + k))).map (Value.int .u8)) hoo (byO_row hby).1.src (oneB _) (by unfold maxLen; omega) (by omega) (Nat.le_trans HC.out.size hc9.size) ?_
                          intro v2 w2 ho2 hg2 hm2
                          have hW2 := hw9.grow HEB.out ho2 hg2 hm2
                          have hC2 : Chg (fun _ => False) w1 w2 := (chg_then HC.out hc9).grown hg2 (fun g e => .inr ((hoo.lt g e).1))
                          obtain ⟨l1, l2, hl3⟩ := form1 ho2
                          subst hl3
                          exact hK.out _ w2 ⟨fun e => absurd e (by omega), fun e => absurd e (by omega), fun _ => ⟨l1, l2, rfl, hW2, hC2⟩⟩ trivial
                        · show StepRQ _ _ _ _ _ _ _ _ _ -- 238
                          unfold StepRQ
                          intro qn hq u w_ hj hd K hK
                          have h229 : u 229 = .slice (some ⟨gb, 0, none⟩) 3 cb := hd.get 0 (by kernel_rfl)
                          have h230 : u 230 = .int .i64 (k : Int) := hd.get 1 (by kernel_rfl)
                          clear hd
                          simp only [h229, h230] at hK
                          go_simp
                          exact hK.out (.pointer (some ⟨gb, k, none⟩)) rfl
                      · intro u w7 hj hA K hK
                        obtain ⟨_, _, h5⟩ := hj
                        have e238 : u 238 = .pointer (some ⟨gb, k, none⟩) := hA.at 238 (by kernel_rfl)
                        obtain ⟨a9, d9, e237, hw7, hc7⟩ := h5 rfl
                        have h0 := hw7.own (0, 0) _ ((upR_ne (by simp)).trans HF.out.c0)
                        have x7 := outer_at h0 rfl HVB.out
                        have f7 := row_free h0 k
                        have o0 := own_setS h0 k (.slice a9 (bl + 300) d9)
                        have HW9 : Hid _ := hw7.set (k := (0, 0)) ((upR_ne (by simp)).trans HF.out.c0) o0 (chg_set.mono (fun z e => by simp [Value.ownBlock, e]))
                        have HF9 : Hid (Fx (fun j => .slice (SD j) (SN j) (SC j)) (fun j => strOfNums (nums (BB j))) _ 3 (.slice (some ⟨gb, 0, none⟩) 3 cb) (.slice (some ⟨gr, 0, none⟩) 3 cr) (.slice (some ⟨gp, 0, none⟩) 3 cp) (.slice (some ⟨gw, 0, none⟩) 3 cw) (.slice (some ⟨gl, 0, none⟩) 3 cl) (bvs.set k (.slice a9 (bl + 300) d9)) rvs pvs (tN 300 (fun j => (BB j).length) (k + 1)) (tX sB (XA BB 3) (k + 1)) (tN 1 SN (k)) (tX sR (fun j => rcs (YA SL 3 j)) (k)) (tN 1 SN (k)) (tX sP (fun j => pls (ZA PP 3 j)) (k))) := (HF.out.gb (v' := .slice a9 (bl + 300) d9) hlt (bl + 300) (XA BB 3 k ++ sB k)).cast (fun j => by rw [← HBL.out]; exact tN_next _ _ _ _) (fun j => tX_next _ _ _ _) (fun _ => rfl) (fun _ => rfl) (fun _ => rfl) (fun _ => rfl)
                        have HC9 : Hid (Chg (fun _ => False) w1 (w7.setCell ⟨gb, k, none⟩ (.slice a9 (bl + 300) d9))) := hc7.trans chg_set (fun z e => .inr (by subst e; exact (h0.lt _ rfl).1))
                        simp only [e237, e238] at hK ⊢
                        clear h5 hA e237 e238 hw7 hc7 h0 o0
                        go_simp
                        refine hK.out _ _ ?_
                        clear hK kb x7 f7
                        generalize w7.setCell ⟨gb, k, none⟩ (.slice a9 (bl + 300) d9) = w8 at *
                        clear HW HF HC HEB HER HEP HTL HVB
                        have HWX : Hid _ := HW9
                        have HFX : Hid _ := HF9
                        clear HW9 HF9
                        obtain ⟨R9, HW9, HF9⟩ : ∃ R9, Hid (Rws w1.heap.size w8 R9) ∧ Hid (Fx (fun j => .slice (SD j) (SN j) (SC j)) (fun j => strOfNums (nums (BB j))) R9 3 (.slice (some ⟨gb, 0, none⟩) 3 cb) (.slice (some ⟨gr, 0, none⟩) 3 cr) (.slice (some ⟨gp, 0, none⟩) 3 cp) (.slice (some ⟨gw, 0, none⟩) 3 cw) (.slice (some ⟨gl, 0, none⟩) 3 cl) (bvs.set k (.slice a9 (bl + 300) d9)) rvs pvs (tN 300 (fun j => (BB j).length) (k + 1)) (tX sB (XA BB 3) (k + 1)) (tN 1 SN (k)) (tX sR (fun j => rcs (YA SL 3 j)) (k)) (tN 1 SN (k)) (tX sP (fun j => pls (ZA PP 3 j)) (k))) := ⟨_, HWX, HFX⟩
                        clear HWX HFX
                        have e9 := HF9.out.cr k _ HVR.out
                        simp only [tN_at, tX_at, HM.out] at e9
                        have k9 := outer_at (HW9.out.own _ _ HF9.out.c1) rfl HVR.out
                        have hs9 := from_rc w8 ⟨0, -1 - (k : Int)⟩ 43
                        have c9 := chg_one w8 (.cells #[.int .i64 0, .int .i64 (-1 - (k : Int))] 43)
                        have HWA9 : Hid _ := HW9.out.new c9
                        have HCA9 : Hid (Chg (fun _ => False) w1 (w8.alloc (.cells #[.int .i64 0, .int .i64 (-1 - (k : Int))] 43))) := chg_then HC9.out c9
                        have own9 := HWA9.out.own _ _ e9
                        have hB9 := HCA9.out.size
                        have HE9 : Hid _ := e9
                        clear c9 e9
                        go_wp2_with (at_builtin; refine wpList_append_moved rfl _ _ 23 rfl w1.heap.size 43 ir (.agg #[.int .i64 0, .int .i64 0]) 2 16 Tryd.underlying23 hir hi0 hi1 hi2 rfl (by decide) _ m (rcs (YA SL 3 k)) rfl (some ⟨w8.heap.size, 0, none⟩) 1 1 rfl (sR k) own9 hs9 (sR_cell k) (by unfold maxLen; omega) (by omega) hB9 ?_)
                        intro v10 w10 ho10 hg10 hm10
                        obtain ⟨a10, d10, rfl, _⟩ := formI ho10
                        have hw10 := HWA9.out.grow HE9.out ho10 hg10 hm10
                        have hc10 : Chg (fun _ => False) w1 w10 := HCA9.out.grown hg10 (fun g e => .inr ((own9.lt g e).1))
                        have h010 := hw10.own (0, 1) _ ((upR_ne (by simp)).trans HF9.out.c1)
                        have x10 := outer_at h010 rfl HVR.out
                        have f10 := row_free h010 k
                        have o10 := own_setS h010 k (.slice a10 (m + 1) d10)
                        have HWB10 : Hid _ := hw10.set (k := (0, 1)) ((upR_ne (by simp)).trans HF9.out.c1) o10 (chg_set.mono (fun z e => by simp [Value.ownBlock, e]))
                        have HFB10 : Hid (Fx (fun j => .slice (SD j) (SN j) (SC j)) (fun j => strOfNums (nums (BB j))) _ 3 (.slice (some ⟨gb, 0, none⟩) 3 cb) (.slice (some ⟨gr, 0, none⟩) 3 cr) (.slice (some ⟨gp, 0, none⟩) 3 cp) (.slice (some ⟨gw, 0, none⟩) 3 cw) (.slice (some ⟨gl, 0, none⟩) 3 cl) (bvs.set k (.slice a9 (bl + 300) d9)) (rvs.set k (.slice a10 (m + 1) d10)) pvs (tN 300 (fun j => (BB j).length) (k + 1)) (tX sB (XA BB 3) (k + 1)) (tN 1 SN (k + 1)) (tX sR (fun j => rcs (YA SL 3 j)) (k + 1)) (tN 1 SN (k)) (tX sP (fun j => pls (ZA PP 3 j)) (k))) := (HF9.out.gr (v' := .slice a10 (m + 1) d10) hlt (m + 1) (rcs (YA SL 3 k) ++ sR k)).cast (fun _ => rfl) (fun _ => rfl) (fun j => by rw [← HM.out]; exact tN_next _ _ _ _) (fun j => tX_next _ _ _ _) (fun _ => rfl) (fun _ => rfl)
                        have HC10 : Hid (Chg (fun _ => False) w1 (w10.setCell ⟨gr, k, none⟩ (.slice a10 (m + 1) d10))) := hc10.trans chg_set (fun z e => .inr (by subst e; exact (h010.lt _ rfl).1))
                        obtain ⟨R10, HW10, HF10⟩ : ∃ R10, Hid (Rws w1.heap.size (w10.setCell ⟨gr, k, none⟩ (.slice a10 (m + 1) d10)) R10) ∧ Hid (Fx (fun j => .slice (SD j) (SN j) (SC j)) (fun j => strOfNums (nums (BB j))) R10 3 (.slice (some ⟨gb, 0, none⟩) 3 cb) (.slice (some ⟨gr, 0, none⟩) 3 cr) (.slice (some ⟨gp, 0, none⟩) 3 cp) (.slice (some ⟨gw, 0, none⟩) 3 cw) (.slice (some ⟨gl, 0, none⟩) 3 cl) (bvs.set k (.slice a9 (bl + 300) d9)) (rvs.set k (.slice a10 (m + 1) d10)) pvs (tN 300 (fun j => (BB j).length) (k + 1)) (tX sB (XA BB 3) (k + 1)) (tN 1 SN (k + 1)) (tX sR (fun j => rcs (YA SL 3 j)) (k + 1)) (tN 1 SN (k)) (tX sP (fun j => pls (ZA PP 3 j)) (k))) := ⟨_, HWB10, HFB10⟩
                        clear ho10 hg10 hm10 hw10 hc10 h010 o10 HWB10 HFB10 own9 hs9 HWA9 HCA9 hB9 HE9 HW9 HF9 HC9 k9
                        have e10 := HF10.out.cp k _ HVP.out
                        simp only [tN_at, tX_at, HM.out] at e10
                        have k10 := outer_at (HW10.out.own _ _ HF10.out.c2) rfl HVP.out
                        have hs10 := from_pl (w10.setCell ⟨gr, k, none⟩ (.slice a10 (m + 1) d10)) ⟨0, ⟨0, 0⟩, -1 - (k : Int)⟩ 45
                        rw [World.size_setCell] at hs10
                        have c10 := chg_one (w10.setCell ⟨gr, k, none⟩ (.slice a10 (m + 1) d10)) (.cells #[.int .i64 0, .int .i64 0, .int .i64 0, .int .i64 (-1 - (k : Int))] 45)
                        have HWA10 : Hid _ := HW10.out.new c10
                        have HCA10 : Hid (Chg (fun _ => False) w1 ((w10.setCell ⟨gr, k, none⟩ (.slice a10 (m + 1) d10)).alloc (.cells #[.int .i64 0, .int .i64 0, .int .i64 0, .int .i64 (-1 - (k : Int))] 45))) := chg_then HC10.out c10
                        have own10 := HWA10.out.own _ _ e10
                        have hB10 := HCA10.out.size
                        have HE10 : Hid _ := e10
                        clear c10 e10
                        go_wp2_with (at_builtin; refine wpList_append_moved rfl _ _ 39 rfl w1.heap.size 45 ip (.agg #[.int .i64 0, .int .i64 0, .int .i64 0, .int .i64 0]) 4 32 Tryd.underlying39 hip hq0 hq1 hq2 rfl (by decide) _ m (pls (ZA PP 3 k)) rfl (some ⟨w10.heap.size, 0, none⟩) 1 1 rfl (sP k) own10 hs10 (sP_cell k) (by unfold maxLen; omega) (by omega) hB10 ?_)
                        intro v11 w11 ho11 hg11 hm11
                        obtain ⟨a11, d11, rfl, _⟩ := formI ho11
                        have hw11 := HWA10.out.grow HE10.out ho11 hg11 hm11
                        have hc11 : Chg (fun _ => False) w1 w11 := HCA10.out.grown hg11 (fun g e => .inr ((own10.lt g e).1))
                        have h011 := hw11.own (0, 2) _ ((upR_ne (by simp)).trans HF10.out.c2)
                        have x11 := outer_at h011 rfl HVP.out
                        have f11 := row_free h011 k
                        have o11 := own_setS h011 k (.slice a11 (m + 1) d11)
                        have HWB11 : Hid _ := hw11.set (k := (0, 2)) ((upR_ne (by simp)).trans HF10.out.c2) o11 (chg_set.mono (fun z e => by simp [Value.ownBlock, e]))
                        have HFB11 : Hid (Fx (fun j => .slice (SD j) (SN j) (SC j)) (fun j => strOfNums (nums (BB j))) _ 3 (.slice (some ⟨gb, 0, none⟩) 3 cb) (.slice (some ⟨gr, 0, none⟩) 3 cr) (.slice (some ⟨gp, 0, none⟩) 3 cp) (.slice (some ⟨gw, 0, none⟩) 3 cw) (.slice (some ⟨gl, 0, none⟩) 3 cl) (bvs.set k (.slice a9 (bl + 300) d9)) (rvs.set k (.slice a10 (m + 1) d10)) (pvs.set k (.slice a11 (m + 1) d11)) (tN 300 (fun j => (BB j).length) (k + 1)) (tX sB (XA BB 3) (k + 1)) (tN 1 SN (k + 1)) (tX sR (fun j => rcs (YA SL 3 j)) (k + 1)) (tN 1 SN (k + 1)) (tX sP (fun j => pls (ZA PP 3 j)) (k + 1))) := (HF10.out.gp (v' := .slice a11 (m + 1) d11) hlt (m + 1) (pls (ZA PP 3 k) ++ sP k)).cast (fun _ => rfl) (fun _ => rfl) (fun _ => rfl) (fun _ => rfl) (fun j => by rw [← HM.out]; exact tN_next _ _ _ _) (fun j => tX_next _ _ _ _)
                        have HC11 : Hid (Chg (fun _ => False) w1 (w11.setCell ⟨gp, k, none⟩ (.slice a11 (m + 1) d11))) := hc11.trans chg_set (fun z e => .inr (by subst e; exact (h011.lt _ rfl).1))
                        obtain ⟨R11, HW11, HF11⟩ : ∃ R11, Hid (Rws w1.heap.size (w11.setCell ⟨gp, k, none⟩ (.slice a11 (m + 1) d11)) R11) ∧ Hid (Fx (fun j => .slice (SD j) (SN j) (SC j)) (fun j => strOfNums (nums (BB j))) R11 3 (.slice (some ⟨gb, 0, none⟩) 3 cb) (.slice (some ⟨gr, 0, none⟩) 3 cr) (.slice (some ⟨gp, 0, none⟩) 3 cp) (.slice (some ⟨gw, 0, none⟩) 3 cw) (.slice (some ⟨gl, 0, none⟩) 3 cl) (bvs.set k (.slice a9 (bl + 300) d9)) (rvs.set k (.slice a10 (m + 1) d10)) (pvs.set k (.slice a11 (m + 1) d11)) (tN 300 (fun j => (BB j).length) (k + 1)) (tX sB (XA BB 3) (k + 1)) (tN 1 SN (k + 1)) (tX sR (fun j => rcs (YA SL 3 j)) (k + 1)) (tN 1 SN (k + 1)) (tX sP (fun j => pls (ZA PP 3 j)) (k + 1))) := ⟨_, HWB11, HFB11⟩
                        clear ho11 hg11 hm11 hw11 hc11 h011 o11 HWB11 HFB11 own10 hs10 HWA10 HCA10 hB10 HE10 HW10 HF10 HC10 k10
                        go_wp2_with fail
                        refine ⟨?_, by simp [intOf]; omega⟩
                        repeat apply Exists.intro
                        refine And.intro ?_ rfl
                        exact ⟨k + 1, by omega, by go_num, _, _, _, R11, HW11, HF11, HC11⟩
                  · obtain rfl : k = 3 := by omega
                    as_aux_lemma =>
                      have HW9 : Hid (Rws w1.heap.size wr R) := HW
                      have HF9 : Hid (Fx (fun j => .slice (SD j) (SN j) (SC j)) (fun j => strOfNums (nums (BB j))) R 3 (.slice (some ⟨gb, 0, none⟩) 3 cb) (.slice (some ⟨gr, 0, none⟩) 3 cr) (.slice (some ⟨gp, 0, none⟩) 3 cp) (.slice (some ⟨gw, 0, none⟩) 3 cw) (.slice (some ⟨gl, 0, none⟩) 3 cl) bvs rvs pvs (tN 300 (fun j => (BB j).length) (3)) (tX sB (XA BB 3) (3)) (tN 1 SN (3)) (tX sR (fun j => rcs (YA SL 3 j)) (3)) (tN 1 SN (3)) (tX sP (fun j => pls (ZA PP 3 j)) (3))) := HF
                      have HC9 : Hid (Chg (fun _ => False) w1 wr) := HC
                      clear HW HF HC
                      generalize wr = wd at *
                      go_wp2_with fail
                      go_loopw [266] (fun i wr => ∃ k : Nat, k ≤ 3 ∧ i = .int .i64 (k : Int) ∧ Hid (Chg (fun _ => False) wd wr)) (fun i _ => 3 - (intOf i).toNat)
                      case atStart => exact ⟨0, by omega, rfl, Chg.refl _ _⟩
                      case round =>
                        obtain ⟨k, hk, rfl, HC⟩ := hrel
                        have hki : (k : Int) ≤ 3 := by omega
                        generalize hwq : wr = wq at *
                        by_cases hlt : k < 3
                        · have d1 : decide ((k : Int) < 3) = true := decide_eq_true (by omega)
                          have d1' : decide (k < 3) = true := decide_eq_true hlt
                          have hki3 : (k : Int) < 3 := by omega
                          have hWr : Rws w1.heap.size wq R := HW9.out.new HC.out
                          obtain ⟨vb, hvb⟩ : ∃ v, bvs[k]? = some v := ⟨bvs[k]'(by rw [HF9.out.lb]; exact hlt), List.getElem?_eq_getElem _⟩
                          obtain ⟨vr, hvr⟩ : ∃ v, rvs[k]? = some v := ⟨rvs[k]'(by rw [HF9.out.lr]; exact hlt), List.getElem?_eq_getElem _⟩
                          obtain ⟨vp, hvp⟩ : ∃ v, pvs[k]? = some v := ⟨pvs[k]'(by rw [HF9.out.lp]; exact hlt), List.getElem?_eq_getElem _⟩
                          have ob := hWr.own _ _ (HF9.out.cb k vb hvb)
                          have orr := hWr.own _ _ (HF9.out.cr k vr hvr)
                          have op := hWr.own _ _ (HF9.out.cp k vp hvp)
                          simp only [tN_in _ _ hlt, tX_in _ _ hlt] at ob orr op
                          rw [XA_tail _ hlt] at ob
                          rw [YA_tail _ hlt, HLL.out] at orr
                          rw [ZA_tail _ hlt, HPN.out] at op
                          obtain ⟨s1, hs1⟩ : ∃ s, strOfNums (nums (BB k)) = s := ⟨_, rfl⟩
                          have hsz : (BB k).length = s1.size := by rw [← hs1, strOfNums_size, nums_len]
                          have hbb := HRM.out k
                          rw [hsz] at hbb ob
                          obtain ⟨m, hm⟩ : ∃ m, SN k = m := ⟨_, rfl⟩
                          have hmm := HNB.out k
                          rw [hm] at orr op hmm
                          obtain ⟨gx, cx, rfl, hcx, _, hpx, _⟩ := own_at ob (by omega)
                          obtain ⟨gy, cy, rfl, hcy, _, hpy, _⟩ := own_at orr (by omega)
                          obtain ⟨gz, cz, rfl, hcz, _, hpz, _⟩ := own_at op (by omega)
                          have kb := outer_at (hWr.own _ _ HF9.out.c0) rfl hvb
                          have kr := outer_at (hWr.own _ _ HF9.out.c1) rfl hvr
                          have kp := outer_at (hWr.own _ _ HF9.out.c2) rfl hvp
                          have kw : wq.cell? ⟨gw, k, none⟩ = some (.string s1) := by rw [← hs1]; exact outer_at (hWr.own _ _ HF9.out.c3) rfl (range_at hlt (fun j => .string (strOfNums (nums (BB j)))))
                          have kl : wq.cell? ⟨gl, k, none⟩ = some (.slice (SD k) m (SC k)) := by rw [← hm]; exact outer_at (hWr.own _ _ HF9.out.c4) rfl (range_at hlt (fun j => .slice (SD j) (SN j) (SC j)))
                          have HKB : Hid _ := kb
                          have HKR : Hid _ := kr
                          have HKP : Hid _ := kp
                          have HPX : Hid (∀ t, t < s1.size → wq.cell? ⟨gx, t, none⟩ = some (.int .u8 (k : Int))) := fun t ht => hpx t _ (tail_at _ _ _ _ _ ht)
                          have HPY : Hid (∀ t, t < m → wq.cell? ⟨gy, t * 2, none⟩ = some (.int .i64 (-1 - (k : Int)))) := fun t ht => hpy _ _ (rcs_at _ _ _ (two_at m t _ _ ht)).1
                          have HPZ : Hid (∀ t, t < m → wq.cell? ⟨gz, t * 4, none⟩ = some (.int .i64 (-1 - (k : Int)))) := fun t ht => hpz _ _ (pls_at _ _ _ (two_at m t _ _ ht)).1
                          have HCY : Hid (wq.cell? ⟨gy, m * 2 + 1, none⟩ = some (.int .i64 (-1 - (k : Int)))) := hpy _ _ (rcs_at _ _ _ (two_end m _ _)).2
                          have HCZ : Hid (wq.cell? ⟨gz, m * 4 + 3, none⟩ = some (.int .i64 (-1 - (k : Int)))) := hpz _ _ (pls_at _ _ _ (two_end m _ _)).2.2.2
                          obtain ⟨ST, hST⟩ : ∃ s, strOfNums (nums (List.replicate 300 (100 + k))) = s := ⟨_, rfl⟩
                          have HST : Hid (strOfNums (nums (List.replicate 300 (100 + k))) = ST) := hST
                          have hne : ¬ cx = s1.size := by omega
                          have HR : Hid (Row8 wq (some ⟨gx, s1.size, none⟩) 300 (cx - s1.size) (nums (List.replicate 300 (100 + k)))) := by
                            have hbl : ByO wq w1.heap.size (.slice (some ⟨gx, 0, none⟩) (s1.size + 300) cx) (List.replicate s1.size k ++ List.replicate 300 (100 + k)) := by
                              unfold ByO
                              rw [tail_len]
                              exact ob
                            have h8 := row8_cut (byO_row hbl).1 hcx s1.size 300 (cx - s1.size) (by omega) (fun e => by omega)
                            rw [if_neg hne, nums_cut] at h8
                            simp only [Option.map_some, addk, Nat.zero_add] at h8
                            rw [tail_drop] at h8
                            exact h8
                          have HCV : Hid (∀ ww, Chg (fun _ => False) wq ww → (convert 22 9 (.slice (some ⟨gx, s1.size, none⟩) 300 (cx - s1.size))).run Tryd.prog ww = .ok (.string ST) ww) := fun ww hw => by rw [← hST]; exact Bk.conv8_here (Bk.row8_chg HR.out hw)
                          have HTL : Hid (∀ ww, Calls Tryd.prog 16 #[.int .i64 (k : Int)] ww fun e w' => ∃ p, e = .returned p ∧ ByO w' ww.heap.size p (List.replicate 300 (100 + k)) ∧ Chg (fun _ => False) ww w') := fun ww => tail23_any k ww (by omega)
                          have HSZ : Hid (w1.heap.size ≤ wq.heap.size) := Nat.le_trans HC9.out.size HC.out.size
                          have hw8 : IntKind.u8.wrap (k : Int) = (k : Int) := by simp [IntKind.wrap, IntKind.signed, IntKind.bits]; omega
                          have hbi : (s1.size : Int) ≤ 61572651155500 := by omega
                          have hwk : IntKind.i64.wrap (-1 - (k : Int)) = -1 - (k : Int) := by simp [IntKind.wrap, IntKind.signed, IntKind.bits]; omega
                          have hmi : (m : Int) ≤ 1048576 := by omega
                          have hcxi : (s1.size : Int) + 300 ≤ (cx : Int) := by omega
                          have hmm1 : (m : Int) < (m : Int) + 1 := by omega
                          clear ob orr op hvb hvr hvp hs1 hST hpx hpy hpz hWr HR hsz hm
                          go_upto_region 60 with fail
                          go_quiet (fail)
                          have HCQ : Hid (Chg (fun _ => False) wq (wq.drewN nq)) := chg_drewN wq nq
                          clear kb kr kp kw kl
                          generalize wq.drewN nq = wr at *
                          as_aux_lemma =>
                            go_wp2_with fail
                            go_loop [31] (fun i => ∃ t : Nat, t ≤ s1.size ∧ i = .int .i64 (t : Int)) (fun i => s1.size - (intOf i).toNat)
                            case atStart => exact ⟨0, by omega, rfl⟩
                            case round =>
                              obtain ⟨t, ht, rfl⟩ := hrel
                              have hti : (t : Int) ≤ (s1.size : Int) := by omega
                              by_cases htl : t < s1.size
                              · have d5 : decide ((t : Int) < (s1.size : Int)) = true := decide_eq_true (by omega)
                                have d5' : decide (t < s1.size) = true := decide_eq_true htl
                                have hti2 : (t : Int) < (s1.size : Int) := by omega
                                have hti3 : (t : Int) < (s1.size : Int) + 300 := by omega
                                have kb := cell_chg HKB.out HCQ.out
                                have e1 := cell_chg (HPX.out t htl) HCQ.out
                                have q1 : ((k : Int) != (k : Int)) = false := by simp
                                go_wp2
                                go_round
                                case rel => exact ⟨t + 1, by omega, by go_num⟩
                                case measure => simp [intOf]; omega
                              · have htn : s1.size = t := by omega
                                subst htn
                                have d5 : decide ((s1.size : Int) < (s1.size : Int)) = false := decide_eq_false (by omega)
                                clear HPX hti ht htl
                                go_wp2_with fail
                                go_loop [32] (fun i => ∃ t : Nat, t ≤ m ∧ i = .int .i64 (t : Int)) (fun i => m - (intOf i).toNat)
                                case atStart => exact ⟨0, by omega, rfl⟩
                                case round =>
                                  obtain ⟨t, ht, rfl⟩ := hrel
                                  have hti : (t : Int) ≤ (m : Int) := by omega
                                  by_cases htl : t < m
                                  · have d6 : decide ((t : Int) < (m : Int)) = true := decide_eq_true (by omega)
                                    have d6' : decide (t < m) = true := decide_eq_true htl
                                    have hti2 : (t : Int) < (m : Int) := by omega
                                    have hti3 : (t : Int) < (m : Int) + 1 := by omega
                                    have kr := cell_chg HKR.out HCQ.out
                                    have kp := cell_chg HKP.out HCQ.out
                                    have e1 := cell_chg (HPY.out t htl) HCQ.out
                                    have e2 := cell_chg (HPZ.out t htl) HCQ.out
                                    have q1 : ((-1 - (k : Int)) != (-1 - (k : Int))) = false := by simp
                                    go_wp2
                                    go_round
                                    case rel => exact ⟨t + 1, by omega, by go_num⟩
                                    case measure => simp [intOf]; omega
                                  · have htn : m = t := by omega
                                    subst htn
                                    have d6 : decide ((m : Int) < (m : Int)) = false := decide_eq_false (by omega)
                                    have q1 : ((-1 - (k : Int)) != (-1 - (k : Int))) = false := by simp
                                    have q2 : (ST.toList != ST.toList) = false := by simp
                                    have q3 : (ST.toList == ST.toList) = true := by simp
                                    clear HPY HPZ hti ht htl
                                    go_upto_region 71 with fail
                                    refine wp_region_phaseQ (mk := fun u => #[_, _, _, _, _, _, _, _, _, _, _, _, _, _, _, _, _, _, _, _, _, _, _, _, _, _, _, _, _, _, _, _, _, _, _, _, _, _, _, _, _, _, _, _, _, _, _, _, _, _, _, _, _, _, _, _, _, _, _, _, _, _, _, _, _, _, _, _, _, _, _, _, _, _, _, _, _, _, _, _, _, _, _, _, _, _, _, _, _, _, _, _, _, _, _, _, _, _, _, _, _, _, _, _, _, _, _, _, _, _, _, _, _, _, _, _, _, _, _, _, _, _, _, _, _, _, _, _, _, _, _, _, _, _, _, _, _, _, _, _, _, _, _, _, _, _, _, _, _, _, _, _, _, _, _, _, _, _, _, _, _, _, _, _, _, _, _, _, _, _, _, _, _, _, _, _, _, _, _, _, _, _, _, _, _, _, _, _, _, _, _, _, _, _, _, _, _, _, _, _, _, _, _, _, _, _, _, _, _, _, _, _, _, _, _, _, _, _, _, _, _, _, _, _, _, _, _, _, _, _, _, _, _, _, _, _, _, _, _, _, _, _, _, _, _, _, _, _, _, _, _, _, _, _, _, _, _, _, _, _, _, _, _, _, _, _, _, _, _, _, _, _, _, _, _, _, _, _, _, _, _, _, _, _, _, _, _, _, _, _, _, _, _, _, _, _, _, _, _, _, _, _, _, _, _, _, _, _, _, _, _, _, _, _, _, _, _, _, _, _, _, _, _, u 323, u 324, u 325, u 326, u 327, u 328, u 329, u 330, u 331, u 332, u 333, u 334, u 335, u 336, u 337, u 338, u 339, u 340, u 341, u 342, u 343, u 344, u 345, u 346, u 347, u 348, u 349, u 350, u 351, u 352, u 353, u 354, u 355, u 356, u 357, u 358, _, _, _]) (G := lookG [(323, .slice (some ⟨gb, 0, none⟩) 3 cb), (324, .int .i64 (k : Int)), (325, .pointer (some ⟨gb, k, none⟩)), (326, .slice (some ⟨gx, 0, none⟩) (s1.size + 300) cx), (327, .int .i64 (s1.size : Int)), (328, .slice (some ⟨gx, s1.size, none⟩) 300 (cx - s1.size)), (329, .string ST), (330, .int .i64 (k : Int)), (332, .string ST), (333, .bool false), (334, .bool false), (335, .slice (some ⟨gr, 0, none⟩) 3 cr), (336, .int .i64 (k : Int)), (337, .pointer (some ⟨gr, k, none⟩)), (338, .slice (some ⟨gy, 0, none⟩) (m + 1) cy), (339, .int .i64 (m : Int)), (340, .pointer (some ⟨gy, m * 2, none⟩)), (341, .pointer (some ⟨gy, m * 2 + 1, none⟩)), (342, .int .i64 (-1 - (k : Int))), (343, .int .i64 (k : Int)), (344, .int .i64 (-1 - (k : Int))), (345, .bool false), (346, .bool false), (347, .bool false), (348, .slice (some ⟨gp, 0, none⟩) 3 cp), (349, .int .i64 (k : Int)), (350, .pointer (some ⟨gp, k, none⟩)), (351, .slice (some ⟨gz, 0, none⟩) (m + 1) cz), (352, .int .i64 (m : Int)), (353, .pointer (some ⟨gz, m * 4, none⟩)), (354, .pointer (some ⟨gz, m * 4 + 3, none⟩)), (355, .int .i64 (-1 - (k : Int))), (356, .int .i64 (k : Int)), (357, .int .i64 (-1 - (k : Int))), (358, .bool false)]) (J := fun q u ww => TjI w1 wq k q (u 331) ww) [8, 9] (fun i =>  2) ([]) (fun slot => match slot with | 323 => u323 | 324 => u324 | 325 => u325 | 326 => u326 | 327 => u327 | 328 => u328 | 329 => u329 | 330 => u330 | 331 => u331 | 332 => u332 | 333 => u333 | 334 => u334 | 335 => u335 | 336 => u336 | 337 => u337 | 338 => u338 | 339 => u339 | 340 => u340 | 341 => u341 | 342 => u342 | 343 => u343 | 344 => u344 | 345 => u345 | 346 => u346 | 347 => u347 | 348 => u348 | 349 => u349 | 350 => u350 | 351 => u351 | 352 => u352 | 353 => u353 | 354 => u354 | 355 => u355 | 356 => u356 | 357 => u357 | 358 => u358 | 359 => u359 | _ => undef) rfl (by kernel_rfl) 36 _ rfl rfl (by kernel_rfl) (by kernel_rfl) (by kernel_rfl) (by decide) ?_ ?_ ?_ (by kernel_rfl) ?_ ?_
                                    · repeat (refine ⟨fun _ _ => rfl, ?_⟩)
                                      exact trivial
                                    · intro q u u2 ww h hj
                                      have e331 : u 331 = u2 331 := h 8 (by decide)
                                      show TjI _ _ _ _ _ _
                                      rw [← e331]
                                      exact hj
                                    · exact ⟨HCQ.out.drew, fun e => absurd e (by omega)⟩
                                    · refine ⟨?_, ?_, ?_, ?_, ?_, ?_, ?_, ?_, ?_, ?_, ?_, ?_, ?_, ?_, ?_, ?_, ?_, ?_, ?_, ?_, ?_, ?_, ?_, ?_, ?_, ?_, ?_, ?_, ?_, ?_, ?_, ?_, ?_, ?_, ?_, ?_, trivial⟩
                                      · show StepRQ _ _ _ _ _ _ _ _ _ -- 323
                                        unfold StepRQ
                                        intro qn hq u w_ hj hd K hK
                                        clear hd
                                        go_simp
                                        exact hK.out (.slice (some ⟨gb, 0, none⟩) 3 cb) rfl
                                      · show StepRQ _ _ _ _ _ _ _ _ _ -- 324
                                        unfold StepRQ
                                        intro qn hq u w_ hj hd K hK
                                        clear hd
                                        go_simp
                                        exact hK.out (.int .i64 (k : Int)) rfl
                                      · show StepRQ _ _ _ _ _ _ _ _ _ -- 325
                                        unfold StepRQ
                                        intro qn hq u w_ hj hd K hK
                                        have h323 : u 323 = .slice (some ⟨gb, 0, none⟩) 3 cb := hd.get 0 (by kernel_rfl)
                                        have h324 : u 324 = .int .i64 (k : Int) := hd.get 1 (by kernel_rfl)
                                        clear hd
                                        simp only [h323, h324] at hK
                                        go_simp
                                        exact hK.out (.pointer (some ⟨gb, k, none⟩)) rfl
                                      · show StepRQ _ _ _ _ _ _ _ _ _ -- 326
                                        unfold StepRQ
                                        intro qn hq u w_ hj hd K hK
                                        have h325 : u 325 = .pointer (some ⟨gb, k, none⟩) := hd.get 2 (by kernel_rfl)
                                        clear hd
                                        simp only [h325] at hK
                                        have x0 := cell_chg HKB.out hj.1
                                        clear hj
                                        go_simp
                                        exact hK.out _ rfl
                                      · show StepRQ _ _ _ _ _ _ _ _ _ -- 327
                                        unfold StepRQ
                                        intro qn hq u w_ hj hd K hK
                                        clear hd
                                        go_simp
                                        exact hK.out (.int .i64 (s1.size : Int)) rfl
                                      · show StepRQ _ _ _ _ _ _ _ _ _ -- 328
                                        unfold StepRQ
                                        intro qn hq u w_ hj hd K hK
                                        have h326 : u 326 = .slice (some ⟨gx, 0, none⟩) (s1.size + 300) cx := hd.get 3 (by kernel_rfl)
                                        have h327 : u 327 = .int .i64 (s1.size : Int) := hd.get 4 (by kernel_rfl)
                                        clear hd
                                        simp only [h326, h327] at hK
                                        clear hj
                                        have hle9 : (s1.size : Int) ≤ (s1.size : Int) + 300 := by omega
                                        go_simp
                                        exact hK.out _ rfl
                                      · show StepRQ _ _ _ _ _ _ _ _ _ -- 329
                                        unfold StepRQ
                                        intro qn hq u w_ hj hd K hK
                                        have h328 : u 328 = .slice (some ⟨gx, s1.size, none⟩) 300 (cx - s1.size) := hd.get 5 (by kernel_rfl)
                                        clear hd
                                        simp only [h328] at hK
                                        have x0 := HCV.out w_ hj.1
                                        clear hj
                                        go_simp
                                        exact hK.out _ rfl
                                      · show StepRQ _ _ _ _ _ _ _ _ _ -- 330
                                        unfold StepRQ
                                        intro qn hq u w_ hj hd K hK
                                        clear hd
                                        go_simp
                                        exact hK.out (.int .i64 (k : Int)) rfl
                                      · show StepWQ _ _ _ _ _ _ _ _ _ -- 331
                                        unfold StepWQ
                                        intro u w_ hj hd K hK
                                        have h330 : u 330 = .int .i64 (k : Int) := hd.get 7 (by kernel_rfl)
                                        clear hd
                                        simp only [h330] at hK
                                        have HN9 : Hid _ := hj
                                        clear hj
                                        go_simp
                                        go_at_call 16
                                        refine (HTL.out w_).mono ?_
                                        rintro z w2 ⟨p9, rfl, hp9, c2⟩
                                        obtain ⟨ta, tc, hpe⟩ := byO_form hp9
                                        rw [List.length_replicate] at hpe
                                        subst hpe
                                        exact hK.out _ w2 ⟨chg_then HN9.out.1 c2, fun _ => ⟨ta, tc, rfl, owns_base hp9 (Nat.le_trans HSZ.out HN9.out.1.size)⟩⟩ trivial
                                      · show StepWQ _ _ _ _ _ _ _ _ _ -- 332
                                        unfold StepWQ
                                        intro u w_ hj hd K hK
                                        clear hd
                                        obtain ⟨hc9, h2⟩ := hj
                                        obtain ⟨ta, tc, e331, hby⟩ := h2 rfl
                                        have x0 : (convert 22 9 (.slice ta 300 tc)).run Tryd.prog w_ = .ok (.string ST) w_ := by rw [← HST.out]; exact Bk.conv8_here (byO_row hby).1
                                        clear h2 hby
                                        simp only [e331] at hK ⊢
                                        go_simp
                                        exact hK.out _ _ ⟨hc9, fun e => absurd e (by omega)⟩ rfl
                                      · show StepRQ _ _ _ _ _ _ _ _ _ -- 333
                                        unfold StepRQ
                                        intro qn hq u w_ hj hd K hK
                                        have h329 : u 329 = .string ST := hd.get 6 (by kernel_rfl)
                                        have h332 : u 332 = .string ST := hd.get 9 (by kernel_rfl)
                                        clear hd
                                        simp only [h329, h332] at hK
                                        go_simp
                                        exact hK.out (.bool false) rfl
                                      · show StepRQ _ _ _ _ _ _ _ _ _ -- 334
                                        unfold StepRQ
                                        intro qn hq u w_ hj hd K hK
                                        have h333 : u 333 = .bool false := hd.get 10 (by kernel_rfl)
                                        clear hd
                                        simp only [h333] at hK
                                        go_simp
                                        exact hK.out (.bool false) rfl
                                      · show StepRQ _ _ _ _ _ _ _ _ _ -- 335
                                        unfold StepRQ
                                        intro qn hq u w_ hj hd K hK
                                        have h334 : u 334 = .bool false := hd.get 11 (by kernel_rfl)
                                        clear hd
                                        simp only [h334] at hK
                                        go_simp
                                        exact hK.out (.slice (some ⟨gr, 0, none⟩) 3 cr) rfl
                                      · show StepRQ _ _ _ _ _ _ _ _ _ -- 336
                                        unfold StepRQ
                                        intro qn hq u w_ hj hd K hK
                                        have h334 : u 334 = .bool false := hd.get 11 (by kernel_rfl)
                                        clear hd
                                        simp only [h334] at hK
                                        go_simp
                                        exact hK.out (.int .i64 (k : Int)) rfl
                                      · show StepRQ _ _ _ _ _ _ _ _ _ -- 337
                                        unfold StepRQ
                                        intro qn hq u w_ hj hd K hK
                                        have h335 : u 335 = .slice (some ⟨gr, 0, none⟩) 3 cr := hd.get 12 (by kernel_rfl)
                                        have h336 : u 336 = .int .i64 (k : Int) := hd.get 13 (by kernel_rfl)
                                        have h334 : u 334 = .bool false := hd.get 11 (by kernel_rfl)
                                        clear hd
                                        simp only [h335, h336, h334] at hK
                                        go_simp
                                        exact hK.out (.pointer (some ⟨gr, k, none⟩)) rfl
                                      · show StepRQ _ _ _ _ _ _ _ _ _ -- 338
                                        unfold StepRQ
                                        intro qn hq u w_ hj hd K hK
                                        have h337 : u 337 = .pointer (some ⟨gr, k, none⟩) := hd.get 14 (by kernel_rfl)
                                        have h334 : u 334 = .bool false := hd.get 11 (by kernel_rfl)
                                        clear hd
                                        simp only [h337, h334] at hK
                                        have x0 := cell_chg HKR.out hj.1
                                        clear hj
                                        go_simp
                                        exact hK.out _ rfl
                                      · show StepRQ _ _ _ _ _ _ _ _ _ -- 339
                                        unfold StepRQ
                                        intro qn hq u w_ hj hd K hK
                                        have h334 : u 334 = .bool false := hd.get 11 (by kernel_rfl)
                                        clear hd
                                        simp only [h334] at hK
                                        go_simp
                                        exact hK.out (.int .i64 (m : Int)) rfl
                                      · show StepRQ _ _ _ _ _ _ _ _ _ -- 340
                                        unfold StepRQ
                                        intro qn hq u w_ hj hd K hK
                                        have h338 : u 338 = .slice (some ⟨gy, 0, none⟩) (m + 1) cy := hd.get 15 (by kernel_rfl)
                                        have h339 : u 339 = .int .i64 (m : Int) := hd.get 16 (by kernel_rfl)
                                        have h334 : u 334 = .bool false := hd.get 11 (by kernel_rfl)
                                        clear hd
                                        simp only [h338, h339, h334] at hK
                                        go_simp
                                        exact hK.out (.pointer (some ⟨gy, m * 2, none⟩)) rfl
                                      · show StepRQ _ _ _ _ _ _ _ _ _ -- 341
                                        unfold StepRQ
                                        intro qn hq u w_ hj hd K hK
                                        have h340 : u 340 = .pointer (some ⟨gy, m * 2, none⟩) := hd.get 17 (by kernel_rfl)
                                        have h334 : u 334 = .bool false := hd.get 11 (by kernel_rfl)
                                        clear hd
                                        simp only [h340, h334] at hK
                                        go_simp
                                        exact hK.out (.pointer (some ⟨gy, m * 2 + 1, none⟩)) rfl
                                      · show StepRQ _ _ _ _ _ _ _ _ _ -- 342
                                        unfold StepRQ
                                        intro qn hq u w_ hj hd K hK
                                        have h341 : u 341 = .pointer (some ⟨gy, m * 2 + 1, none⟩) := hd.get 18 (by kernel_rfl)
                                        have h334 : u 334 = .bool false := hd.get 11 (by kernel_rfl)
                                        clear hd
                                        simp only [h341, h334] at hK
                                        have x0 := cell_chg HCY.out hj.1
                                        clear hj
                                        go_simp
                                        exact hK.out _ rfl
                                      · show StepRQ _ _ _ _ _ _ _ _ _ -- 343
                                        unfold StepRQ
                                        intro qn hq u w_ hj hd K hK
                                        have h334 : u 334 = .bool false := hd.get 11 (by kernel_rfl)
                                        clear hd
                                        simp only [h334] at hK
                                        go_simp
                                        exact hK.out (.int .i64 (k : Int)) rfl
                                      · show StepRQ _ _ _ _ _ _ _ _ _ -- 344
                                        unfold StepRQ
                                        intro qn hq u w_ hj hd K hK
                                        have h343 : u 343 = .int .i64 (k : Int) := hd.get 20 (by kernel_rfl)
                                        have h334 : u 334 = .bool false := hd.get 11 (by kernel_rfl)
                                        clear hd
                                        simp only [h343, h334] at hK
                                        clear hj
                                        go_simp
                                        first | exact hK.out _ rfl | (rw [hwk]; exact hK.out _ rfl) | (simp only [hwk]; exact hK.out _ rfl)
                                      · show StepRQ _ _ _ _ _ _ _ _ _ -- 345
                                        unfold StepRQ
                                        intro qn hq u w_ hj hd K hK
                                        have h342 : u 342 = .int .i64 (-1 - (k : Int)) := hd.get 19 (by kernel_rfl)
                                        have h344 : u 344 = .int .i64 (-1 - (k : Int)) := hd.get 21 (by kernel_rfl)
                                        have h334 : u 334 = .bool false := hd.get 11 (by kernel_rfl)
                                        clear hd
                                        simp only [h342, h344, h334] at hK
                                        go_simp
                                        exact hK.out (.bool false) rfl
                                      · show StepRQ _ _ _ _ _ _ _ _ _ -- 346
                                        unfold StepRQ
                                        intro qn hq u w_ hj hd K hK
                                        have h334 : u 334 = .bool false := hd.get 11 (by kernel_rfl)
                                        have h345 : u 345 = .bool false := hd.get 22 (by kernel_rfl)
                                        clear hd
                                        simp only [h334, h345] at hK
                                        go_simp
                                        exact hK.out (.bool false) rfl
                                      · show StepRQ _ _ _ _ _ _ _ _ _ -- 347
                                        unfold StepRQ
                                        intro qn hq u w_ hj hd K hK
                                        have h346 : u 346 = .bool false := hd.get 23 (by kernel_rfl)
                                        clear hd
                                        simp only [h346] at hK
                                        go_simp
                                        exact hK.out (.bool false) rfl
                                      · show StepRQ _ _ _ _ _ _ _ _ _ -- 348
                                        unfold StepRQ
                                        intro qn hq u w_ hj hd K hK
                                        have h347 : u 347 = .bool false := hd.get 24 (by kernel_rfl)
                                        clear hd
                                        simp only [h347] at hK
                                        go_simp
                                        exact hK.out (.slice (some ⟨gp, 0, none⟩) 3 cp) rfl
                                      · show StepRQ _ _ _ _ _ _ _ _ _ -- 349
                                        unfold StepRQ
                                        intro qn hq u w_ hj hd K hK
                                        have h347 : u 347 = .bool false := hd.get 24 (by kernel_rfl)
                                        clear hd
                                        simp only [h347] at hK
                                        go_simp
                                        exact hK.out (.int .i64 (k : Int)) rfl
                                      · show StepRQ _ _ _ _ _ _ _ _ _ -- 350
                                        unfold StepRQ
                                        intro qn hq u w_ hj hd K hK
                                        have h348 : u 348 = .slice (some ⟨gp, 0, none⟩) 3 cp := hd.get 25 (by kernel_rfl)
                                        have h349 : u 349 = .int .i64 (k : Int) := hd.get 26 (by kernel_rfl)
                                        have h347 : u 347 = .bool false := hd.get 24 (by kernel_rfl)
                                        clear hd
                                        simp only [h348, h349, h347] at hK
                                        go_simp
                                        exact hK.out (.pointer (some ⟨gp, k, none⟩)) rfl
                                      · show StepRQ _ _ _ _ _ _ _ _ _ -- 351
                                        unfold StepRQ
                                        intro qn hq u w_ hj hd K hK
                                        have h350 : u 350 = .pointer (some ⟨gp, k, none⟩) := hd.get 27 (by kernel_rfl)
                                        have h347 : u 347 = .bool false := hd.get 24 (by kernel_rfl)
                                        clear hd
                                        simp only [h350, h347] at hK
                                        have x0 := cell_chg HKP.out hj.1
                                        clear hj
                                        go_simp
                                        exact hK.out _ rfl
                                      · show StepRQ _ _ _ _ _ _ _ _ _ -- 352
                                        unfold StepRQ
                                        intro qn hq u w_ hj hd K hK
                                        have h347 : u 347 = .bool false := hd.get 24 (by kernel_rfl)
                                        clear hd
                                        simp only [h347] at hK
                                        go_simp
                                        exact hK.out (.int .i64 (m : Int)) rfl
                                      · show StepRQ _ _ _ _ _ _ _ _ _ -- 353
                                        unfold StepRQ
                                        intro qn hq u w_ hj hd K hK
                                        have h351 : u 351 = .slice (some ⟨gz, 0, none⟩) (m + 1) cz := hd.get 28 (by kernel_rfl)
                                        have h352 : u 352 = .int .i64 (m : Int) := hd.get 29 (by kernel_rfl)
                                        have h347 : u 347 = .bool false := hd.get 24 (by kernel_rfl)
                                        clear hd
                                        simp only [h351, h352, h347] at hK
                                        go_simp
                                        exact hK.out (.pointer (some ⟨gz, m * 4, none⟩)) rfl
                                      · show StepRQ _ _ _ _ _ _ _ _ _ -- 354
                                        unfold StepRQ
                                        intro qn hq u w_ hj hd K hK
                                        have h353 : u 353 = .pointer (some ⟨gz, m * 4, none⟩) := hd.get 30 (by kernel_rfl)
                                        have h347 : u 347 = .bool false := hd.get 24 (by kernel_rfl)
                                        clear hd
                                        simp only [h353, h347] at hK
                                        go_simp
                                        exact hK.out (.pointer (some ⟨gz, m * 4 + 3, none⟩)) rfl
                                      · show StepRQ _ _ _ _ _ _ _ _ _ -- 355
                                        unfold StepRQ
                                        intro qn hq u w_ hj hd K hK
                                        have h354 : u 354 = .pointer (some ⟨gz, m * 4 + 3, none⟩) := hd.get 31 (by kernel_rfl)
                                        have h347 : u 347 = .bool false := hd.get 24 (by kernel_rfl)
                                        clear hd
                                        simp only [h354, h347] at hK
                                        have x0 := cell_chg HCZ.out hj.1
                                        clear hj
                                        go_simp
                                        exact hK.out _ rfl
                                      · show StepRQ _ _ _ _ _ _ _ _ _ -- 356
                                        unfold StepRQ
                                        intro qn hq u w_ hj hd K hK
                                        have h347 : u 347 = .bool false := hd.get 24 (by kernel_rfl)
                                        clear hd
                                        simp only [h347] at hK
                                        go_simp
                                        exact hK.out (.int .i64 (k : Int)) rfl
                                      · show StepRQ _ _ _ _ _ _ _ _ _ -- 357
                                        unfold StepRQ
                                        intro qn hq u w_ hj hd K hK
                                        have h356 : u 356 = .int .i64 (k : Int) := hd.get 33 (by kernel_rfl)
                                        have h347 : u 347 = .bool false := hd.get 24 (by kernel_rfl)
                                        clear hd
                                        simp only [h356, h347] at hK
                                        clear hj
                                        go_simp
                                        first | exact hK.out _ rfl | (rw [hwk]; exact hK.out _ rfl) | (simp only [hwk]; exact hK.out _ rfl)
                                      · show StepRQ _ _ _ _ _ _ _ _ _ -- 358
                                        unfold StepRQ
                                        intro qn hq u w_ hj hd K hK
                                        have h355 : u 355 = .int .i64 (-1 - (k : Int)) := hd.get 32 (by kernel_rfl)
                                        have h357 : u 357 = .int .i64 (-1 - (k : Int)) := hd.get 34 (by kernel_rfl)
                                        have h347 : u 347 = .bool false := hd.get 24 (by kernel_rfl)
                                        clear hd
                                        simp only [h355, h357, h347] at hK
                                        go_simp
                                        exact hK.out (.bool false) rfl
                                    · intro u w7 hj hA K hK
                                      have hc9 := hj.1
                                      have h347 : u 347 = .bool false := hA.at 347 (by kernel_rfl)
                                      have h358 : u 358 = .bool false := hA.at 358 (by kernel_rfl)
                                      have HCE : Hid (Chg (fun _ => False) wd w7) := chg_then HC.out hc9
                                      clear hj hA hc9
                                      simp only [h347, h358] at hK ⊢
                                      go_simp
                                      refine hK.out _ _ ?_
                                      clear hK h347 h358
                                      go_wp2_with fail
                                      refine ⟨?_, by simp [intOf]; omega⟩
                                      repeat apply Exists.intro
                                      refine And.intro ?_ rfl
                                      exact ⟨k + 1, by omega, by go_num, HCE⟩
                        · obtain rfl : k = 3 := by omega
                          have hcF := chg_then HCA.out (chg_then HC9.out HC.out)
                          clear hwq
                          go_wp2_with fail
                          refine Calls.mono (HK.out _ hcF) ?_
                          rintro z w9 ⟨rfl, c9⟩
                          have HCF : Hid (Chg (fun _ => False) w0 w9) := chg_then hcF c9
                          clear c9
                          go_wp2
                          go_ret
                          exact ⟨rfl, HCF.out⟩
end Go.Proofs.YtehfcfpbjenmjaaDoor
