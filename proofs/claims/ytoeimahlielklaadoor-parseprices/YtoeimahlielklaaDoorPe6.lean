/- The program's prices; of no statement by themselves. -/
import Derived.Test.YtoeimahlielklaaDoorPc6
import Derived.Test.YtoeimahlielklaaDoorRt
import Derived.Test.YtoeimahlielklaaDoorSd
import Derived.Test.YtoeimahlielklaaDoorVk
namespace Go.Proofs.YtoeimahlielklaaDoor
open Go.RowKit
open St12
set_option linter.unusedVariables false
set_option linter.unusedSimpArgs false
variable {Tab : World → Prop}
theorem nxt_st06 (y : Sym) : (nxt st0 y).2 = formed y := by
  unfold nxt
  rw [if_neg (by decide)]
  split
  · rfl
  · next h => exact (Decidable.of_not_not h).symm
theorem st06 : Stt.I st0 := ⟨⟨by decide, by decide⟩, ⟨by decide, by decide⟩, ⟨by decide, by decide⟩, ⟨by decide, by decide⟩, ⟨by decide, by decide⟩⟩
set_option maxHeartbeats 2000000 in
theorem lenp_q (n : Int) (w : World) : Calls Tryd.prog 20 #[.int .i64 n] w fun e w' => e = .returned (.int .i64 (longA n)) ∧ Chg (fun _ => False) w w' := by
  have HE : Hid (longA n = if n ≤ 9 then 4 else if n ≤ 17 then 5 else 10) := rfl
  go_enter Tryd.func20, Tryd.ntmps20
  by_cases h : n ≤ 9
  · have d0 : decide (n ≤ 9) = true := decide_eq_true h
    have HE : Hid (longA n = 4) := by show _ = _; rw [HE.out, if_pos h]
    clear h
    go_wp2
    go_ret
    exact ⟨by rw [HE.out]; rfl, Chg.refl _ _⟩
  · have d0 : decide (n ≤ 9) = false := decide_eq_false h
    by_cases h2 : n ≤ 17
    · have d1 : decide (n ≤ 17) = true := decide_eq_true h2
      have HE : Hid (longA n = 5) := by show _ = _; rw [HE.out, if_neg h, if_pos h2]
      clear h h2
      go_wp2
      go_ret
      exact ⟨by rw [HE.out]; rfl, Chg.refl _ _⟩
    · have d1 : decide (n ≤ 17) = false := decide_eq_false h2
      have HE : Hid (longA n = 10) := by show _ = _; rw [HE.out, if_neg h, if_neg h2]
      clear h h2
      go_wp2
      go_ret
      exact ⟨by rw [HE.out]; rfl, Chg.refl _ _⟩
set_option maxHeartbeats 2000000 in
theorem repp_q (d : Int) (w : World) : Calls Tryd.prog 21 #[.int .i64 d] w fun e w' => e = .returned (.int .i64 (if d < 2 then 4 else 5)) ∧ Chg (fun _ => False) w w' := by
  go_enter Tryd.func21, Tryd.ntmps21
  by_cases h : d < 2
  · have d0 : decide (d < 2) = true := decide_eq_true h
    rw [if_pos h]
    clear h
    go_wp2
    go_ret
    exact ⟨rfl, Chg.refl _ _⟩
  · have d0 : decide (d < 2) = false := decide_eq_false h
    rw [if_neg h]
    clear h
    go_wp2
    go_ret
    exact ⟨rfl, Chg.refl _ _⟩
set_option maxHeartbeats 2000000 in
theorem disp_q (T : StSpec Tab) (d : Int) (h1 : 1 ≤ d) (h2 : d ≤ 4294967295) (w : World) (hT : Tab w) : Calls Tryd.prog 19 #[.int .i64 d] w fun e w' => e = .returned (.int .i64 (8 + bitsA d)) ∧ Chg (fun _ => False) w w' := by
  have hI : I64 d := ⟨by omega, by omega⟩
  have hsl : slotA d = (((slotN d.toNat : Nat) : Int), 0) := by unfold slotA; rw [if_pos ⟨h1, h2⟩]
  have HB := bits_bound h1 h2
  have hs64 : slotN d.toNat ≤ 63 := by have := slotN_lt (d := d.toNat) (by omega); omega
  have hra : rangeA ((slotN d.toNat : Nat) : Int) = (((least (slotN d.toNat) : Nat) : Int), bitsA d, 0) := by
    unfold rangeA
    rw [if_pos ⟨by omega, by omega⟩]
    rfl
  have HS : Hid _ := T.slot d w hT hI
  have HR : Hid (∀ w', Chg (fun _ => False) w w' → _) := fun w' hc => T.range ((slotN d.toNat : Nat) : Int) w' (T.keep hT hc) ⟨by omega, by omega⟩
  rw [hsl] at HS
  rw [hra] at HR
  generalize hgs : slotN d.toNat = sl at *
  generalize hgl : least sl = lo at *
  generalize hgb : bitsA d = bi at *
  simp only at HS HR
  clear hI hsl hra hT hgs hgl hgb
  go_enter Tryd.func19, Tryd.ntmps19
  go_wp2_with fail
  refine Calls.mono HS.out ?_
  rintro z w1 ⟨rfl, c1⟩
  have HX : Hid _ := HR.out w1 c1
  have HC1 : Hid (Chg (fun _ => False) w w1) := c1
  clear c1 HS HR
  go_wp2_with fail
  refine Calls.mono HX.out ?_
  rintro z w2 ⟨rfl, c2⟩
  have HC2 : Hid (Chg (fun _ => False) w w2) := chg_then HC1.out c2
  clear c2 HX HC1
  go_wp2
  go_ret
  exact ⟨rfl, HC2.out⟩
set_option maxHeartbeats 8000000 in
set_option maxRecDepth 100000 in
theorem pof_q (T : StSpec Tab) (k yb yl yd : Int) (hf : formed ⟨k, yb, yl, yd⟩ = 0) (w : World) (hT : Tab w) : Calls Tryd.prog 11 #[.agg #[.int .i64 k, .int .u8 yb, .int .i64 yl, .int .i64 yd]] w fun e w' => e = .returned (.int .i64 (priceA ⟨k, yb, yl, yd⟩).1) ∧ Chg (fun _ => False) w w' := by
  have hk := formed_kind hf
  simp only at hk
  have hP : (priceA ⟨k, yb, yl, yd⟩).1 = if k = 1 then 9 else if k = 4 then 4 else if k = 3 then (if yd < 2 then 4 else 5) + longA yl else 8 + longA yl + bitsA yd := by
    unfold priceA
    rw [if_neg (by simp [hf])]
    simp only
    split
    · rfl
    · split
      · rfl
      · split <;> rfl
  rw [hP]
  have cA := chg_one w (.cells #[.int .i64 k, .int .u8 yb, .int .i64 yl, .int .i64 yd] 24)
  obtain ⟨m0, m1, m2, m3⟩ := cells4y (heap_alloc_last w (.cells #[.int .i64 k, .int .u8 yb, .int .i64 yl, .int .i64 yd] 24))
  have HLP : Hid (∀ w_, Calls Tryd.prog 20 #[.int .i64 yl] w_ fun e w' => e = .returned (.int .i64 (longA yl)) ∧ Chg (fun _ => False) w_ w') := lenp_q yl
  have hlb := long_bound yl
  have HTA : Hid (Tab (w.alloc (.cells #[.int .i64 k, .int .u8 yb, .int .i64 yl, .int .i64 yd] 24))) := T.keep hT cA
  clear hf hP hT
  rcases hk with rfl | ⟨rfl, hk⟩ | ⟨rfl, hk⟩ | rfl
  · go_enter Tryd.func11, Tryd.ntmps11
    go_wp2
    go_ret
    exact ⟨rfl, chg_one _ _⟩
  · have HDP : Hid (∀ w_, Chg (fun _ => False) (w.alloc (.cells #[.int .i64 2, .int .u8 yb, .int .i64 yl, .int .i64 yd] 24)) w_ → Calls Tryd.prog 19 #[.int .i64 yd] w_ fun e w' => e = .returned (.int .i64 (8 + bitsA yd)) ∧ Chg (fun _ => False) w_ w') := fun w_ hc => disp_q T yd hk.2.2.1 hk.2.2.2 w_ (T.keep HTA.out hc)
    have hbb := bits_bound hk.2.2.1 hk.2.2.2
    obtain ⟨D, hD⟩ : ∃ D, 8 + bitsA yd = D := ⟨_, rfl⟩
    obtain ⟨E, hE⟩ : ∃ E, longA yl = E := ⟨_, rfl⟩
    obtain ⟨S, hS⟩ : ∃ S, D + E = S := ⟨_, rfl⟩
    have HS : Hid (IntKind.i64.wrap (D + E) = S) := by show _ = _; rw [← hS]; simp [IntKind.wrap, IntKind.signed, IntKind.bits]; omega
    have HR : Hid ((if (2 : Int) = 1 then (9 : Int) else if (2 : Int) = 4 then 4 else if (2 : Int) = 3 then (if yd < 2 then 4 else 5) + longA yl else 8 + longA yl + bitsA yd) = S) := by show _ = _; simp; omega
    rw [hD] at HDP
    rw [hE] at HLP
    rw [HR.out]
    clear hD hE hS HR hbb hlb hk
    go_enter Tryd.func11, Tryd.ntmps11
    go_upto_region 3 with fail
    have HC : Hid (Chg (fun _ => False) w (w.alloc (.cells #[.int .i64 2, .int .u8 yb, .int .i64 yl, .int .i64 yd] 24))) := cA
    clear cA HTA m0 m1
    generalize w.alloc (.cells #[.int .i64 2, .int .u8 yb, .int .i64 yl, .int .i64 yd] 24) = W at *
    generalize w.heap.size = b0 at *
    refine wp_region_last (mk := fun u => #[_, _, _, _, _, _, _, u 7, u 8, u 9, u 10, u 11, u 12, u 13, _, _, _, _, _, _, _, _, _, _, _]) (F := fun slot vv ww => (look [(7, .val (.pointer (some ⟨b0, 3, none⟩))), (8, .val (.int .i64 yd)), (9, .val (.int .i64 D)), (10, .val (.pointer (some ⟨b0, 2, none⟩))), (11, .val (.int .i64 yl)), (12, .val (.int .i64 E)), (13, .val (.int .i64 S))] slot).holds vv ww) (fun _ => undef) rfl (by kernel_rfl) 7 _ rfl rfl (by kernel_rfl) ?_ (fun _ v w w' hc h => Fact.stays _ v w w' hc h) ?_ ?_
    · repeat (refine ⟨⟨_, rfl, fun _ _ => rfl⟩, ?_⟩)
      exact trivial
    · refine ⟨?_, ?_, ?_, ?_, ?_, ?_, ?_, trivial⟩
      · intro u w_ hc hd K hK -- 7
        clear hd
        go_simp
        exact hK.out (.pointer (some ⟨b0, 3, none⟩)) w_ (Chg.refl _ _) rfl
      · intro u w_ hc hd K hK -- 8
        have h7 : (Fact.val (.pointer (some ⟨b0, 3, none⟩))).holds (u 7) w_ := hd.get 0 (by kernel_rfl)
        simp only [Fact.holds] at h7
        clear hd
        simp only [h7] at hK
        have x0 := cell_chg m3 hc
        go_simp
        exact hK.out _ w_ (Chg.refl _ _) rfl
      · intro u w_ hc hd K hK -- 9
        have h8 : (Fact.val (.int .i64 yd)).holds (u 8) w_ := hd.get 1 (by kernel_rfl)
        simp only [Fact.holds] at h8
        clear hd
        simp only [h8] at hK
        go_simp
        refine Calls.mono (HDP.out w_ hc) ?_
        rintro z w2 ⟨rfl, c2⟩
        exact hK.out _ w2 c2 rfl
      · intro u w_ hc hd K hK -- 10
        clear hd
        go_simp
        exact hK.out (.pointer (some ⟨b0, 2, none⟩)) w_ (Chg.refl _ _) rfl
      · intro u w_ hc hd K hK -- 11
        have h10 : (Fact.val (.pointer (some ⟨b0, 2, none⟩))).holds (u 10) w_ := hd.get 3 (by kernel_rfl)
        simp only [Fact.holds] at h10
        clear hd
        simp only [h10] at hK
        have x0 := cell_chg m2 hc
        go_simp
        exact hK.out _ w_ (Chg.refl _ _) rfl
      · intro u w_ hc hd K hK -- 12
        have h11 : (Fact.val (.int .i64 yl)).holds (u 11) w_ := hd.get 4 (by kernel_rfl)
        simp only [Fact.holds] at h11
        clear hd
        simp only [h11] at hK
        go_simp
        refine Calls.mono (HLP.out w_) ?_
        rintro z w2 ⟨rfl, c2⟩
        exact hK.out _ w2 c2 rfl
      · intro u w_ hc hd K hK -- 13
        have h9 : (Fact.val (.int .i64 D)).holds (u 9) w_ := hd.get 2 (by kernel_rfl)
        simp only [Fact.holds] at h9
        have h12 : (Fact.val (.int .i64 E)).holds (u 12) w_ := hd.get 5 (by kernel_rfl)
        simp only [Fact.holds] at h12
        clear hd
        simp only [h9, h12] at hK
        go_simp
        rw [HS.out]
        exact hK.out _ w_ (Chg.refl _ _) rfl
    · intro u w7 hc hA K hK
      have h13 : (Fact.val (.int .i64 S)).holds (u 13) w7 := hA.at 13 (by kernel_rfl)
      simp only [Fact.holds] at h13
      have HC7 : Hid (Chg (fun _ => False) w w7) := chg_then HC.out hc
      clear hA hc
      simp only [h13] at hK ⊢
      go_simp
      refine hK.out _ _ ?_
      go_wp2
      go_ret
      exact ⟨rfl, HC7.out⟩
  · have HRP : Hid (∀ w_, Chg (fun _ => False) (w.alloc (.cells #[.int .i64 3, .int .u8 yb, .int .i64 yl, .int .i64 yd] 24)) w_ → Calls Tryd.prog 21 #[.int .i64 yd] w_ fun e w' => e = .returned (.int .i64 (if yd < 2 then 4 else 5)) ∧ Chg (fun _ => False) w_ w') := fun w_ hc => repp_q yd w_
    obtain ⟨D, hD⟩ : ∃ D : Int, (if yd < 2 then 4 else 5) = D := ⟨_, rfl⟩
    obtain ⟨E, hE⟩ : ∃ E, longA yl = E := ⟨_, rfl⟩
    obtain ⟨S, hS⟩ : ∃ S, D + E = S := ⟨_, rfl⟩
    have hDb : 4 ≤ D ∧ D ≤ 5 := by rw [← hD]; split <;> omega
    have HS : Hid (IntKind.i64.wrap (D + E) = S) := by show _ = _; rw [← hS]; simp [IntKind.wrap, IntKind.signed, IntKind.bits]; omega
    have HR : Hid ((if (3 : Int) = 1 then (9 : Int) else if (3 : Int) = 4 then 4 else if (3 : Int) = 3 then (if yd < 2 then 4 else 5) + longA yl else 8 + longA yl + bitsA yd) = S) := by show _ = _; rw [if_neg (by decide), if_neg (by decide), if_pos rfl, hD, hE, hS]
    rw [hD] at HRP
    rw [hE] at HLP
    rw [HR.out]
    clear hD hE hS HR hlb hk hDb
    go_enter Tryd.func11, Tryd.ntmps11
    go_upto_region 5 with fail
    have HC : Hid (Chg (fun _ => False) w (w.alloc (.cells #[.int .i64 3, .int .u8 yb, .int .i64 yl, .int .i64 yd] 24))) := cA
    clear cA HTA m0 m1
    generalize w.alloc (.cells #[.int .i64 3, .int .u8 yb, .int .i64 yl, .int .i64 yd] 24) = W at *
    generalize w.heap.size = b0 at *
    refine wp_region_last (mk := fun u => #[_, _, _, _, _, _, _, _, _, _, _, _, _, _, _, _, u 16, u 17, u 18, u 19, u 20, u 21, u 22, _, _]) (F := fun slot vv ww => (look [(16, .val (.pointer (some ⟨b0, 3, none⟩))), (17, .val (.int .i64 yd)), (18, .val (.int .i64 D)), (19, .val (.pointer (some ⟨b0, 2, none⟩))), (20, .val (.int .i64 yl)), (21, .val (.int .i64 E)), (22, .val (.int .i64 S))] slot).holds vv ww) (fun _ => undef) rfl (by kernel_rfl) 7 _ rfl rfl (by kernel_rfl) ?_ (fun _ v w w' hc h => Fact.stays _ v w w' hc h) ?_ ?_
    · repeat (refine ⟨⟨_, rfl, fun _ _ => rfl⟩, ?_⟩)
      exact trivial
    · refine ⟨?_, ?_, ?_, ?_, ?_, ?_, ?_, trivial⟩
      · intro u w_ hc hd K hK -- 16
        clear hd
        go_simp
        exact hK.out (.pointer (some ⟨b0, 3, none⟩)) w_ (Chg.refl _ _) rfl
      · intro u w_ hc hd K hK -- 17
        have h16 : (Fact.val (.pointer (some ⟨b0, 3, none⟩))).holds (u 16) w_ := hd.get 0 (by kernel_rfl)
        simp only [Fact.holds] at h16
        clear hd
        simp only [h16] at hK
        have x0 := cell_chg m3 hc
        go_simp
        exact hK.out _ w_ (Chg.refl _ _) rfl
      · intro u w_ hc hd K hK -- 18
        have h17 : (Fact.val (.int .i64 yd)).holds (u 17) w_ := hd.get 1 (by kernel_rfl)
        simp only [Fact.holds] at h17
        clear hd
        simp only [h17] at hK
        go_simp
        refine Calls.mono (HRP.out w_ hc) ?_
        rintro z w2 ⟨rfl, c2⟩
        exact hK.out _ w2 c2 rfl
      · intro u w_ hc hd K hK -- 19
        clear hd
        go_simp
        exact hK.out (.pointer (some ⟨b0, 2, none⟩)) w_ (Chg.refl _ _) rfl
      · intro u w_ hc hd K hK -- 20
        have h19 : (Fact.val (.pointer (some ⟨b0, 2, none⟩))).holds (u 19) w_ := hd.get 3 (by kernel_rfl)
        simp only [Fact.holds] at h19
        clear hd
        simp only [h19] at hK
        have x0 := cell_chg m2 hc
        go_simp
        exact hK.out _ w_ (Chg.refl _ _) rfl
      · intro u w_ hc hd K hK -- 21
        have h20 : (Fact.val (.int .i64 yl)).holds (u 20) w_ := hd.get 4 (by kernel_rfl)
        simp only [Fact.holds] at h20
        clear hd
        simp only [h20] at hK
        go_simp
        refine Calls.mono (HLP.out w_) ?_
        rintro z w2 ⟨rfl, c2⟩
        exact hK.out _ w2 c2 rfl
      · intro u w_ hc hd K hK -- 22
        have h18 : (Fact.val (.int .i64 D)).holds (u 18) w_ := hd.get 2 (by kernel_rfl)
        simp only [Fact.holds] at h18
        have h21 : (Fact.val (.int .i64 E)).holds (u 21) w_ := hd.get 5 (by kernel_rfl)
        simp only [Fact.holds] at h21
        clear hd
        simp only [h18, h21] at hK
        go_simp
        rw [HS.out]
        exact hK.out _ w_ (Chg.refl _ _) rfl
    · intro u w7 hc hA K hK
      have h22 : (Fact.val (.int .i64 S)).holds (u 22) w7 := hA.at 22 (by kernel_rfl)
      simp only [Fact.holds] at h22
      have HC7 : Hid (Chg (fun _ => False) w w7) := chg_then HC.out hc
      clear hA hc
      simp only [h22] at hK ⊢
      go_simp
      refine hK.out _ _ ?_
      go_wp2
      go_ret
      exact ⟨rfl, HC7.out⟩
  · go_enter Tryd.func11, Tryd.ntmps11
    go_wp2
    go_ret
    exact ⟨rfl, chg_one _ _⟩
set_option maxHeartbeats 4000000 in
set_option maxRecDepth 100000 in
theorem price_q (T : StSpec Tab) (k yb yl yd : Int) (w : World) (hT : Tab w) (hy : (⟨k, yb, yl, yd⟩ : Sym).I) : Calls Tryd.prog 7 #[.agg #[.int .i64 k, .int .u8 yb, .int .i64 yl, .int .i64 yd]] w fun e w' => e = .returned (.tuple #[.int .i64 (priceA ⟨k, yb, yl, yd⟩).1, .int .i64 (priceA ⟨k, yb, yl, yd⟩).2]) ∧ Chg (fun _ => False) w w' := by
  have cB := chg_one w (.cells #[.int .i64 k, .int .u8 yb, .int .i64 yl, .int .i64 yd] 24)
  have HY : Hid ((w.alloc (.cells #[.int .i64 k, .int .u8 yb, .int .i64 yl, .int .i64 yd] 24)).heap[w.heap.size]? = some (.cells #[.int .i64 k, .int .u8 yb, .int .i64 yl, .int .i64 yd] 24 (0, 0))) := heap_alloc_last _ _
  have HC : Hid (Chg (fun _ => False) w (w.alloc (.cells #[.int .i64 k, .int .u8 yb, .int .i64 yl, .int .i64 yd] 24))) := cB
  have HT : Hid (Tab (w.alloc (.cells #[.int .i64 k, .int .u8 yb, .int .i64 yl, .int .i64 yd] 24))) := T.keep hT cB
  have HN0 : Hid (∀ w_, Tab w_ → Calls Tryd.prog 9 #[] w_ fun e w' => e = .returned (.agg #[.int .i64 0, .int .i64 1, .int .i64 1, .int .i64 1, .int .i64 1]) ∧ Chg (fun _ => False) w_ w') := T.new
  obtain ⟨t, er, hx⟩ : ∃ t er, nxt st0 ⟨k, yb, yl, yd⟩ = (t, er) := ⟨_, _, rfl⟩
  have HER : Hid (formed ⟨k, yb, yl, yd⟩ = er) := by have h9 := nxt_st06 ⟨k, yb, yl, yd⟩; rw [hx] at h9; exact h9.symm
  have HNX : Hid (∀ w_, Tab w_ → Calls Tryd.prog 10 #[.agg #[.int .i64 0, .int .i64 1, .int .i64 1, .int .i64 1, .int .i64 1], .agg #[.int .i64 k, .int .u8 yb, .int .i64 yl, .int .i64 yd]] w_ fun e w' => e = .returned (.tuple #[.agg #[.int .i64 t.n, .int .i64 t.a, .int .i64 t.b, .int .i64 t.c, .int .i64 t.d], .int .i64 er]) ∧ Chg (fun _ => False) w_ w') := fun w_ h => by
    have h9 := T.next st0 ⟨k, yb, yl, yd⟩ w_ h st06 hy
    rw [hx] at h9
    exact h9
  clear cB hT hx
  go_enter Tryd.func7, Tryd.ntmps7
  go_wp2_with fail
  generalize w.alloc (.cells #[.int .i64 k, .int .u8 yb, .int .i64 yl, .int .i64 yd] 24) = W0 at *
  refine wp_region_setM (mk := fun u => #[_, _, _, _, u 4, _, u 6, u 7, u 8, u 9, u 10, u 11, _, _, _, _, _]) (G := lookG [(7, .agg #[.int .i64 0, .int .i64 1, .int .i64 1, .int .i64 1, .int .i64 1]), (8, .agg #[.int .i64 k, .int .u8 yb, .int .i64 yl, .int .i64 yd])]) (J := fun L_ u ww => Chg (fun _ => False) W0 ww ∧ ((L_ 2 = false ∧ L_ 3 = false ∧ L_ 4 = false ∧ L_ 5 = false ∧ L_ 7 = false ∧ Chg (fun _ => False) W0 ww) ∨ (L_ 0 = true ∧ L_ 2 = true ∧ ∃ gz, u 9 = .tuple #[.agg #[.int .i64 t.n, .int .i64 t.a, .int .i64 t.b, .int .i64 t.c, .int .i64 t.d], .int .i64 er] ∧ (L_ 3 = true → u 6 = .tuple #[.agg #[.int .i64 t.n, .int .i64 t.a, .int .i64 t.b, .int .i64 t.c, .int .i64 t.d], .int .i64 er]) ∧ (L_ 4 = true → u 10 = .agg #[.int .i64 t.n, .int .i64 t.a, .int .i64 t.b, .int .i64 t.c, .int .i64 t.d]) ∧ (L_ 5 = true → u 11 = .int .i64 er) ∧ (gz = (0 : Nat)))) ∧ (L_ 6 = true → ∃ b7, u 4 = .pointer (some ⟨b7, 0, none⟩) ∧ W0.heap.size ≤ b7 ∧ ww.heap[b7]? = some (.cells (if L_ 7 = true then #[.int .i64 t.n, .int .i64 t.a, .int .i64 t.b, .int .i64 t.c, .int .i64 t.d] else #[.int .i64 0, .int .i64 0, .int .i64 0, .int .i64 0, .int .i64 0]) 36 (0, 0))) ∧ (L_ 7 = true → L_ 6 = true)) [0, 2, 3, 4, 5, 6, 7] ([]) (fun _ => undef) rfl (by kernel_rfl) 8 _ rfl rfl (by kernel_rfl) (by kernel_rfl) ?_ ?_ ?_ ?_ ?_
  · repeat (refine ⟨fun _ _ => rfl, ?_⟩)
    exact trivial
  · intro L_ L2 u u2 ww h hj
    have l0_ : L_ 0 = L2 0 := (h 0 (by decide)).1
    have l2_ : L_ 2 = L2 2 := (h 2 (by decide)).1
    have e2_ : u 9 = u2 9 := (h 2 (by decide)).2
    have l3_ : L_ 3 = L2 3 := (h 3 (by decide)).1
    have e3_ : u 6 = u2 6 := (h 3 (by decide)).2
    have l4_ : L_ 4 = L2 4 := (h 4 (by decide)).1
    have e4_ : u 10 = u2 10 := (h 4 (by decide)).2
    have l5_ : L_ 5 = L2 5 := (h 5 (by decide)).1
    have e5_ : u 11 = u2 11 := (h 5 (by decide)).2
    have l6_ : L_ 6 = L2 6 := (h 6 (by decide)).1
    have e6_ : u 4 = u2 4 := (h 6 (by decide)).2
    have l7_ : L_ 7 = L2 7 := (h 7 (by decide)).1
    show _ ∧ _
    rw [← l0_, ← l2_, ← e2_, ← l3_, ← e3_, ← l4_, ← e4_, ← l5_, ← e5_, ← l6_, ← e6_, ← l7_]
    exact hj
  · exact ⟨(Chg.refl _ W0).drew, .inl ⟨rfl, rfl, rfl, rfl, rfl, (Chg.refl _ W0).drew⟩, (fun h => nomatch h), (fun h => nomatch h)⟩
  · refine ⟨?_, ?_, ?_, ?_, ?_, ?_, ?_, ?_, trivial⟩
    · show StepWS _ _ _ _ _ _ _ _ _ -- 7
      unfold StepWS
      intro L_ u w_ hj hli hwt hd K hK
      clear hd
      obtain ⟨hc, hm, ha, hs⟩ := hj
      rcases hm with ⟨n9, n6, n10, n11, ns, hF⟩ | ⟨l7, l9, _⟩
      · go_simp
        refine Calls.mono (HN0.out w_ (T.keep HT.out hF)) ?_
        rintro z w2 ⟨rfl, c2⟩
        exact hK.out _ w2 ⟨hc.trans c2 (fun _ f => f.elim), .inl ⟨n9, n6, n10, n11, ns, chg_then hF c2⟩, (fun e => by obtain ⟨b7, e7, hb7, hk7⟩ := ha e; exact ⟨b7, e7, hb7, blk_keep hk7 c2 (fun f => f)⟩), hs⟩ rfl
      · rw [l7] at hli; cases hli
    · show StepRS _ _ _ _ _ _ _ _ -- 8
      unfold StepRS
      intro L_ u w_ hj hd K hK
      clear hd
      have hc := hj.1
      obtain ⟨x0, x1, x2, x3⟩ := cells4y (blk_keep HY.out hc (fun f => f))
      clear hj hc
      go_simp
      exact hK.out _ rfl
    · show StepWS _ _ _ _ _ _ _ _ _ -- 9
      unfold StepWS
      intro L_ u w_ hj hli hwt hd K hK
      have h7 : u 7 = .agg #[.int .i64 0, .int .i64 1, .int .i64 1, .int .i64 1, .int .i64 1] := hd.get 0 (by kernel_rfl)
      have h8 : u 8 = .agg #[.int .i64 k, .int .u8 yb, .int .i64 yl, .int .i64 yd] := hd.get 1 (by kernel_rfl)
      clear hd
      simp only [h7, h8] at hK
      obtain ⟨hc, hm, ha, hs⟩ := hj
      rcases hm with ⟨n9, n6, n10, n11, ns, hF⟩ | ⟨l7, l9, _⟩
      · have m6 : ¬ L_ 3 = true := by rw [n6]; decide
        have m10 : ¬ L_ 4 = true := by rw [n10]; decide
        have m11 : ¬ L_ 5 = true := by rw [n11]; decide
        have l7 : L_ 0 = true := hwt ⟨0, .data⟩ (by simp) rfl
        go_simp
        refine Calls.mono (HNX.out w_ (T.keep HT.out hF)) ?_
        rintro z w2 ⟨rfl, c2⟩
        skip
        exact hK.out _ w2 ⟨hc.trans c2 (fun z f => .inl f), .inr ⟨l7, rfl, 0, rfl, (fun e => absurd e m6), (fun e => absurd e m10), (fun e => absurd e m11), rfl⟩, (fun e => by obtain ⟨b7, e7, hb7, hk7⟩ := ha e; exact ⟨b7, e7, hb7, blk_keep hk7 c2 (fun f => f)⟩), hs⟩ trivial
      · rw [l9] at hli; cases hli
    · show StepWS _ _ _ _ _ _ _ _ _ -- 6
      unfold StepWS
      intro L_ u w_ hj hli hwt hd K hK
      clear hd
      obtain ⟨hc, hm, ha, hs⟩ := hj
      have lopr : L_ 2 = true := hwt ⟨2, .data⟩ (by simp) rfl
      rcases hm with ⟨n9, n6, n10, n11, ns, hF⟩ | ⟨l7, l9, gz, e9, q6, q10, q11, hp⟩
      · rw [n9] at lopr; cases lopr
      · have eo := e9
        have HPH : Hid _ := hp
        clear hp
        simp only [eo] at hK ⊢
        go_simp
        exact hK.out _ _ ⟨hc, .inr ⟨l7, l9, gz, e9, (fun _ => rfl), q10, q11, HPH.out⟩, ha, hs⟩ trivial
    · show StepWS _ _ _ _ _ _ _ _ _ -- 10
      unfold StepWS
      intro L_ u w_ hj hli hwt hd K hK
      clear hd
      obtain ⟨hc, hm, ha, hs⟩ := hj
      have lopr : L_ 3 = true := hwt ⟨3, .data⟩ (by simp) rfl
      rcases hm with ⟨n9, n6, n10, n11, ns, hF⟩ | ⟨l7, l9, gz, e9, q6, q10, q11, hp⟩
      · rw [n6] at lopr; cases lopr
      · have eo := q6 lopr
        have HPH : Hid _ := hp
        clear hp
        simp only [eo, e9] at hK ⊢
        go_simp
        exact hK.out _ _ ⟨hc, .inr ⟨l7, l9, gz, e9, q6, (fun _ => rfl), q11, HPH.out⟩, ha, hs⟩ trivial
    · show StepWS _ _ _ _ _ _ _ _ _ -- 11
      unfold StepWS
      intro L_ u w_ hj hli hwt hd K hK
      clear hd
      obtain ⟨hc, hm, ha, hs⟩ := hj
      have lopr : L_ 3 = true := hwt ⟨3, .data⟩ (by simp) rfl
      rcases hm with ⟨n9, n6, n10, n11, ns, hF⟩ | ⟨l7, l9, gz, e9, q6, q10, q11, hp⟩
      · rw [n6] at lopr; cases lopr
      · have eo := q6 lopr
        have HPH : Hid _ := hp
        clear hp
        simp only [eo, e9] at hK ⊢
        go_simp
        exact hK.out _ _ ⟨hc, .inr ⟨l7, l9, gz, e9, q6, q10, (fun _ => rfl), HPH.out⟩, ha, hs⟩ trivial
    · show StepWS _ _ _ _ _ _ _ _ _ -- 4
      unfold StepWS
      intro L_ u w_ hj hli hwt hd K hK
      clear hd
      obtain ⟨hc, hm, ha, hs⟩ := hj
      have nal_ : L_ 6 ≠ true := by rw [hli]; decide
      have nst_ : ¬ L_ 7 = true := fun e => nal_ (hs e)
      have c2 := chg_one w_ (.cells #[.int .i64 0, .int .i64 0, .int .i64 0, .int .i64 0, .int .i64 0] 36)
      rcases hm with ⟨n9, n6, n10, n11, ns, hF⟩ | ⟨l7, l9, gz, e9, q6, q10, q11, hp⟩
      · go_simp
        refine hK.out _ _ ⟨hc.trans c2 (fun _ f => f.elim), .inl ⟨n9, n6, n10, n11, ns, chg_then hF c2⟩, fun _ => ⟨_, rfl, hc.size, ?_⟩, fun _ => rfl⟩ trivial
        show _ = some (Obj.cells (if L_ 7 = true then #[.int .i64 t.n, .int .i64 t.a, .int .i64 t.b, .int .i64 t.c, .int .i64 t.d] else #[.int .i64 0, .int .i64 0, .int .i64 0, .int .i64 0, .int .i64 0]) 36 (0, 0))
        rw [if_neg nst_]
        exact heap_alloc_last _ _
      · have c := c2
        have HP := hp
        simp only [e9] at hK ⊢
        go_simp
        refine hK.out _ _ ⟨hc.trans c2 (fun _ f => f.elim), .inr ⟨l7, l9, gz, e9, q6, q10, q11, HP⟩, fun _ => ⟨_, rfl, hc.size, ?_⟩, fun _ => rfl⟩ trivial
        show _ = some (Obj.cells (if L_ 7 = true then #[.int .i64 t.n, .int .i64 t.a, .int .i64 t.b, .int .i64 t.c, .int .i64 t.d] else #[.int .i64 0, .int .i64 0, .int .i64 0, .int .i64 0, .int .i64 0]) 36 (0, 0))
        rw [if_neg nst_]
        exact heap_alloc_last _ _
    · show StepWS _ _ _ _ _ _ _ _ _ -- #7
      unfold StepWS
      intro L_ u w_ hj hli hwt hd K hK
      clear hd
      obtain ⟨hc, hm, ha, hs⟩ := hj
      have lal_ : L_ 6 = true := hwt ⟨6, .data⟩ (by simp) rfl
      have lopr : L_ 4 = true := hwt ⟨4, .data⟩ (by simp) rfl
      have nst_ : ¬ L_ 7 = true := by rw [hli]; decide
      rcases hm with ⟨n9, n6, n10, n11, ns, hF⟩ | ⟨l7, l9, gz, e9, q6, q10, q11, hp⟩
      · rw [n10] at lopr; cases lopr
      · have eo := q10 lopr
        obtain ⟨b7, e7, hb7, hk7⟩ := ha lal_
        rw [if_neg nst_] at hk7
        obtain ⟨⟨p0, f0⟩, ⟨p1, f1⟩, ⟨p2, f2⟩, ⟨p3, f3⟩, ⟨p4, f4⟩, hblk, c⟩ := put5_of hk7 (.int .i64 t.n) (.int .i64 t.a) (.int .i64 t.b) (.int .i64 t.c) (.int .i64 t.d)
        have hb := hk7
        have HP : Hid _ := hp
        have HL9 : Hid (L_ 6 = true) := lal_
        have HBK : Hid _ := hblk
        have HCH : Hid (Chg (fun _ => False) W0 _) := hc.trans c (fun z e => .inr (by omega))
        have HQ : Hid _ := (And.intro l7 (And.intro l9 (And.intro e9 (And.intro q6 (And.intro q10 q11)))))
        clear lal_ nst_ ha hs hblk c hc l7 l9 e9 q6 q10 q11 hp hk7 hb
        simp only [e7, eo] at hK ⊢
        go_simp
        obtain ⟨l7, l9, e9, q6, q10, q11⟩ := HQ.out
        exact hK.out undef _ ⟨HCH.out, .inr ⟨l7, l9, gz, e9, q6, q10, q11, HP.out⟩, fun _ => ⟨b7, e7, hb7, HBK.out⟩, fun _ => HL9.out⟩ trivial
  · intro u w7 hj hA K hK
    obtain ⟨hc7, hm, _, _⟩ := hj
    rcases hm with ⟨n8, _⟩ | ⟨_, _, gz, e8, _, _, q11, _⟩
    · cases n8
    have e11 : u 11 = .int .i64 er := q11 rfl
    have HC7 : Hid (Chg (fun _ => False) w w7) := chg_then HC.out hc7
    have HT7 : Hid (Tab w7) := T.keep HT.out hc7
    obtain ⟨y0, y1, y2, y3⟩ := cells4y (blk_keep HY.out hc7 (fun f => f))
    clear hA hc7 e8 q11 HY HC HT HN0 HNX
    simp only [e11]
    go_simp
    refine hK.out _ _ ?_
    clear hK e11
    by_cases he : er = 0
    · subst he
      have HLQ : Hid _ := pof_q T k yb yl yd HER.out w7 HT7.out
      have HE : Hid ((priceA ⟨k, yb, yl, yd⟩).2 = 0) := by show _ = _; rw [price_err, HER.out]
      clear HER
      go_wp2_with fail
      refine Calls.mono HLQ.out ?_
      rintro z w8 ⟨rfl, c8⟩
      have HC8 : Hid _ := chg_then HC7.out c8
      clear c8
      go_wp2
      go_ret2
      exact ⟨by rw [HE.out]; rfl, HC8.out⟩
    · have q0 : (er == 0) = false := by rw [beq_eq_false_iff_ne]; exact he
      have q0' : (er != 0) = true := by simp [he]
      have HE : Hid (priceA ⟨k, yb, yl, yd⟩ = (0, er)) := by show _ = _; unfold priceA; rw [if_pos (by rw [HER.out]; exact he), HER.out]
      clear HER he
      go_wp2
      go_ret2
      exact ⟨by rw [HE.out]; rfl, HC7.out⟩
set_option maxHeartbeats 4000000 in
set_option maxRecDepth 100000 in
theorem prices_q (T : StSpec Tab) (ad : Option Addr) (n c : Nat) (l : List Sym) (w0 : World) (hT : Tab w0) (hl : l.length = n) (hc : n ≤ c) (hn : n ≤ 8796093022208) (hS : SymL w0 ad l) : Calls Tryd.prog 4 #[.slice ad n c] w0 fun e w' => e = .returned (.tuple #[.int .i64 (pricesA l).1, .int .i64 (pricesA l).2]) ∧ Chg (fun _ => False) w0 w' := by
  have HS : Hid (SymL w0 ad l) := hS
  have HT : Hid (Tab w0) := hT
  have HL : Hid (l.length = n) := hl
  have hni : (n : Int) ≤ 8796093022208 := by omega
  clear hS hl hT
  go_enter Tryd.func4, Tryd.ntmps4
  go_wp2_with fail
  go_loopw [4, 11] (fun v4 v11 wr => ∃ (i : Nat) (s : Int), i ≤ n ∧ v4 = .int .i64 s ∧ v11 = .int .i64 (i : Int) ∧ 0 ≤ s ∧ s ≤ 48 * (i : Int) ∧ Hid (pricesA (l.take i) = (s, 0) ∧ Chg (fun _ => False) w0 wr)) (fun _ v11 _ => n - (intOf v11).toNat)
  case atStart => exact ⟨0, 0, by omega, rfl, rfl, by omega, by omega, by simp [pricesA], Chg.refl _ _⟩
  case round =>
    obtain ⟨i, s, hi, rfl, rfl, hs0, hs1, HI⟩ := hrel
    have hii : (i : Int) ≤ 8796093022208 := by omega
    by_cases hin : i < n
    · have hd1 : decide (i < n) = true := decide_eq_true hin
      obtain ⟨y, hy⟩ : ∃ y, l[i]? = some y := ⟨_, List.getElem?_eq_getElem (by rw [HL.out]; exact hin)⟩
      obtain ⟨hyI, b, off, rfl, x0, x1, x2, x3⟩ := sym_cell (HS.out.new HI.out.2) i y hy
      have HY : Hid (l[i]? = some y) := hy
      obtain ⟨yk, yb, yl, yd⟩ := y
      simp only at x0 x1 x2 x3
      have cA := chg_one wr (.cells #[.int .i64 yk, .int .u8 yb, .int .i64 yl, .int .i64 yd] 24)
      obtain ⟨m0, m1, m2, m3⟩ := cells4y (heap_alloc_last wr (.cells #[.int .i64 yk, .int .u8 yb, .int .i64 yl, .int .i64 yd] 24))
      have HP : Hid _ := price_q T yk yb yl yd (wr.alloc (.cells #[.int .i64 yk, .int .u8 yb, .int .i64 yl, .int .i64 yd] 24)) (T.keep HT.out (chg_then HI.out.2 cA)) hyI
      have HCA : Hid (Chg (fun _ => False) w0 (wr.alloc (.cells #[.int .i64 yk, .int .u8 yb, .int .i64 yl, .int .i64 yd] 24))) := chg_then HI.out.2 cA
      have hpb := price_bound ⟨yk, yb, yl, yd⟩
      obtain ⟨pv, pe, hpv⟩ : ∃ a b, priceA ⟨yk, yb, yl, yd⟩ = (a, b) := ⟨_, _, rfl⟩
      have HPV : Hid (priceA ⟨yk, yb, yl, yd⟩ = (pv, pe)) := hpv
      rw [hpv] at HP hpb
      simp only at HP hpb
      clear hy hyI hpv cA
      go_wp2_with fail
      refine Calls.mono HP.out ?_
      rintro z w1 ⟨rfl, c1⟩
      have HC1 : Hid (Chg (fun _ => False) w0 w1) := chg_then HCA.out c1
      clear c1 HP x0 x1 x2 x3 m0 m1 m2 m3 HCA
      by_cases hpe : pe = 0
      · subst hpe
        have HN : Hid (pricesA (l.take (i + 1)) = (s + pv, 0)) := by
          have hlt := (List.getElem?_eq_some_iff.1 HY.out).1
          have e9 := (List.getElem?_eq_some_iff.1 HY.out).2
          show _ = _
          rw [← List.take_append_getElem hlt, e9]
          have := prices_snoc HI.out.1 (y := ⟨yk, yb, yl, yd⟩) (by rw [HPV.out])
          rw [HPV.out] at this
          exact this
        clear HI HPV HY
        go_wp2_with fail
        exact ⟨⟨i + 1, s + pv, by omega, rfl, by go_num, by omega, by omega, HN.out, HC1.out⟩, by simp [intOf]; omega⟩
      · have hne : (pe != 0) = true := by simp [hpe]
        have hne' : (pe == 0) = false := by simp [hpe]
        have HN : Hid (pricesA l = (0, pe)) := by
          have hlt := (List.getElem?_eq_some_iff.1 HY.out).1
          have e9 := (List.getElem?_eq_some_iff.1 HY.out).2
          have hll : l = l.take i ++ (⟨yk, yb, yl, yd⟩ : Sym) :: l.drop (i + 1) := by rw [← e9, List.getElem_cons_drop hlt, List.take_append_drop]
          show _ = _
          rw [hll]
          have := prices_stop HI.out.1 (y := ⟨yk, yb, yl, yd⟩) (r := l.drop (i + 1)) (by rw [HPV.out]; exact hpe)
          rw [HPV.out] at this
          exact this
        clear HI HPV HY hpe
        go_wp2
        go_ret2
        exact ⟨by rw [HN.out]; rfl, HC1.out⟩
    · have hd1 : decide (i < n) = false := decide_eq_false hin
      have HN : Hid (pricesA l = (s, 0)) := by
        have h9 := HI.out.1
        rw [List.take_of_length_le (by rw [HL.out]; omega)] at h9
        exact h9
      have HC : Hid (Chg (fun _ => False) w0 wr) := HI.out.2
      clear HI
      go_wp2
      go_ret2
      exact ⟨by rw [HN.out]; rfl, HC.out⟩
theorem priceSpec : PriceSpec Go.Proofs.YtoeimahlielklaaDoor.Tab where
  keep := tab_keep
  price := fun k yb yl yd w hT hI => price_q stSpec k yb yl yd w hT hI
  prices := fun ad n c l w hT hl hc hn hS => prices_q stSpec ad n c l w hT hl hc hn hS
end Go.Proofs.YtoeimahlielklaaDoor
