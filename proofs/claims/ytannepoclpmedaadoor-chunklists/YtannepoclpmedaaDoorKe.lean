/- The program's Put; of no statement by itself. -/
import Derived.Test.YtannepoclpmedaaDoorKc
namespace Go.Proofs.YtannepoclpmedaaDoor
open Go.RowKit
open St12
set_option linter.unusedVariables false
set_option linter.unusedSimpArgs false
theorem put_bad (c : Chk) (h : ¬ (0 ≤ c.k ∧ c.k ≤ 6)) : Ck17.putA c = ([], 6) := by
  unfold Ck17.putA
  rw [if_pos (by omega)]
theorem put_size (K : Nat) (s p lc lp pb : Int) (hK : K ≤ 6) (h : sizedA K s p = false) : Ck17.putA ⟨K, s, p, lc, lp, pb⟩ = ([], 7) := by
  unfold Ck17.putA
  simp only
  rw [if_neg (by omega)]
  unfold sizedA at h
  split at h
  · next h0 =>
    rw [if_pos (by omega), if_pos]
    by_cases hs : s = 0
    · by_cases hp : p = 0
      · simp [hs, hp] at h
      · exact .inr hp
    · exact .inl hs
  · next h0 =>
    rw [if_neg (by omega)]
    split at h
    · next h3 =>
      rw [if_pos (by omega), if_pos]
      simp at h
      by_cases h1 : (s < 1 ∨ 65536 < s)
      · exact .inl h1
      · exact .inr (h (by omega) (by omega))
    · next h3 =>
      rw [if_neg (by omega), if_pos]
      simp at h
      by_cases h1 : 1 ≤ s
      · by_cases h2 : s ≤ 2097152
        · by_cases h4 : 1 ≤ p
          · have := h h1 h2 h4
            omega
          · omega
        · omega
      · omega
theorem put_prop (K : Nat) (s p lc lp pb : Int) (hK : K ≤ 6) (h : sizedA K s p = true) (hp : (propA K lc lp pb).2 ≠ 0) : Ck17.putA ⟨K, s, p, lc, lp, pb⟩ = ([], (propA K lc lp pb).2) := by
  unfold propA at hp ⊢
  split at hp
  · exact absurd rfl hp
  · next h5 =>
    rw [if_neg h5]
    have h6 : (byteP ⟨lc, lp, pb⟩).2 = 6 := by
      unfold byteP at hp ⊢
      split at hp
      · exact absurd rfl hp
      · next ha => rw [if_neg ha]
    unfold sizedA at h
    rw [if_neg (by omega), if_neg (by omega)] at h
    simp at h
    unfold Ck17.putA
    simp only
    rw [if_neg (by omega), if_neg (by omega), if_neg (by omega), if_neg (by omega), if_neg (by omega), if_pos hp, h6]
theorem byteP_rng {lc lp pb : Int} (h : (byteP ⟨lc, lp, pb⟩).2 = 0) : 0 ≤ (byteP ⟨lc, lp, pb⟩).1 ∧ (byteP ⟨lc, lp, pb⟩).1 ≤ 255 := by
  unfold byteP at h ⊢
  split at h
  · next ha =>
    rw [if_pos ha]
    obtain ⟨⟨h1, h2, h3⟩, h4, h5⟩ := ha
    simp only at h1 h2 h3 h4 h5 ⊢
    omega
  · cases h
theorem put_ok (K : Nat) (s p lc lp pb : Int) (hK : K ≤ 6) (h : sizedA K s p = true) (hp : (propA K lc lp pb).2 = 0) :
    (Ck17.putA ⟨K, s, p, lc, lp, pb⟩).2 = 0 ∧ nums (Ck17.putA ⟨K, s, p, lc, lp, pb⟩).1 = writtenA K s p (propA K lc lp pb).1 ∧ (K = 0 ∨ 1 ≤ s ∧ s ≤ 2097152) ∧ (K < 3 ∨ 1 ≤ p ∧ p ≤ 65536) ∧ 0 ≤ (propA K lc lp pb).1 ∧ (propA K lc lp pb).1 ≤ 255 := by
  have hpr : 0 ≤ (propA K lc lp pb).1 ∧ (propA K lc lp pb).1 ≤ 255 := by
    unfold propA at hp ⊢
    split at hp
    · next h5 => rw [if_pos h5]; decide
    · next h5 => rw [if_neg h5]; exact byteP_rng hp
  unfold sizedA at h
  split at h
  · next h0 =>
    subst h0
    simp at h
    obtain ⟨rfl, rfl⟩ := h
    refine ⟨by simp [Ck17.putA], ?_, .inl rfl, .inl (by decide), hpr⟩
    simp [Ck17.putA, writtenA, formN, firstA, nums]
  · next h0 =>
    split at h
    · next h3 =>
      simp at h
      obtain ⟨⟨h1, h2⟩, h4⟩ := h
      subst h4
      have e : Ck17.putA ⟨K, p, p, lc, lp, pb⟩ = ([K, (p - 1).toNat / 256, (p - 1).toNat % 256], 0) := by
        unfold Ck17.putA
        simp only
        rw [if_neg (by omega), if_neg (by omega), if_pos (by omega), if_neg (by omega)]
        simp
      rw [e]
      refine ⟨rfl, ?_, by omega, by omega, hpr⟩
      have hf : formN K = 1 := by unfold formN; rw [if_neg h0, if_pos h3]
      unfold writtenA firstA
      rw [hf, if_pos h3, if_pos (by decide), if_neg (by decide), if_neg (by decide)]
      simp only [nums, List.map_cons, List.map_nil, List.append_nil, List.cons.injEq, and_true]
      exact ⟨trivial, by omega, by omega⟩
    · next h3 =>
      simp at h
      obtain ⟨⟨h1, h2⟩, h4, h5⟩ := h
      have e5 : nums (Ck17.five K s p) = [((128 + 32 * (K - 3) + (s - 1).toNat / 65536 : Nat) : Int), (s - 1) / 256 % 256, (s - 1) % 256, (p - 1) / 256 % 256, (p - 1) % 256] := by
        unfold Ck17.five
        simp only [nums, List.map_cons, List.map_nil, List.cons.injEq, and_true]
        refine ⟨by omega, by omega, by omega, by omega, by omega⟩
      by_cases hk5 : K < 5
      · have e : Ck17.putA ⟨K, s, p, lc, lp, pb⟩ = (Ck17.five K s p, 0) := by
          unfold Ck17.putA
          simp only
          rw [if_neg (by omega), if_neg (by omega), if_neg (by omega), if_neg (by omega), if_pos (by omega)]
        rw [e]
        refine ⟨rfl, ?_, by omega, by omega, hpr⟩
        have hf : formN K = 2 := by unfold formN; rw [if_neg h0, if_neg h3, if_pos hk5]
        rw [e5]
        unfold writtenA firstA
        rw [hf, if_neg h3, if_pos (by decide), if_pos (by decide), if_neg (by decide)]
        rfl
      · have hq : propA K lc lp pb = byteP ⟨lc, lp, pb⟩ := if_neg hk5
        rw [hq] at hp hpr ⊢
        have e : Ck17.putA ⟨K, s, p, lc, lp, pb⟩ = (Ck17.five K s p ++ [(byteP ⟨lc, lp, pb⟩).1.toNat], 0) := by
          unfold Ck17.putA
          simp only
          rw [if_neg (by omega), if_neg (by omega), if_neg (by omega), if_neg (by omega), if_neg (by omega), if_neg (by rw [hp]; decide)]
        rw [e]
        refine ⟨rfl, ?_, by omega, by omega, hpr⟩
        have hf : formN K = 3 := by unfold formN; rw [if_neg h0, if_neg h3, if_neg hk5]
        have e6 : nums (Ck17.five K s p ++ [(byteP ⟨lc, lp, pb⟩).1.toNat]) = nums (Ck17.five K s p) ++ [(byteP ⟨lc, lp, pb⟩).1] := by
          simp [nums]
          omega
        rw [e6, e5]
        unfold writtenA firstA
        rw [hf, if_neg h3, if_pos (by decide), if_pos (by decide), if_pos (by decide)]
        rfl
set_option maxHeartbeats 4000000 in
theorem put17_any (k s p lc lp pb : Int) (hI : Chk.I ⟨k, s, p, lc, lp, pb⟩) (w : World) (hT : Tab w) : Calls Tryd.prog 9 #[.agg #[.int .i64 k, .int .i64 s, .int .i64 p, .int .i64 lc, .int .i64 lp, .int .i64 pb]] w fun e w' => ∃ ov, e = .returned (.tuple #[ov, .int .i64 (Ck17.putA ⟨k, s, p, lc, lp, pb⟩).2]) ∧ ByO w' w.heap.size ov (Ck17.putA ⟨k, s, p, lc, lp, pb⟩).1 ∧ Chg (fun _ => False) w w' := by
  obtain ⟨ik, is, ip, i1, i2, i3⟩ := hI
  have HK : Hid (∀ ww, Calls Tryd.prog 24 #[.int .i64 k] ww fun e w' => e = .returned (.bool (decide (0 ≤ k) && decide (k ≤ 6))) ∧ ww = w') := isKind_q k
  have HC : Hid (Chg (fun _ => False) w (w.alloc (.cells #[.int .i64 k, .int .i64 s, .int .i64 p, .int .i64 lc, .int .i64 lp, .int .i64 pb] 25))) := chg_one w _
  have HB : Hid _ := heap_alloc_last w (.cells #[.int .i64 k, .int .i64 s, .int .i64 p, .int .i64 lc, .int .i64 lp, .int .i64 pb] 25)
  have HT : Hid (Tab (w.alloc (.cells #[.int .i64 k, .int .i64 s, .int .i64 p, .int .i64 lc, .int .i64 lp, .int .i64 pb] 25))) := tab_keep hT HC.out
  clear hT
  by_cases hk : 0 ≤ k ∧ k ≤ 6
  · have HK1 : Hid _ := HK.out (w.alloc (.cells #[.int .i64 k, .int .i64 s, .int .i64 p, .int .i64 lc, .int .i64 lp, .int .i64 pb] 25))
    rw [decide_eq_true hk.1, decide_eq_true hk.2] at HK1
    obtain ⟨K, rfl⟩ : ∃ K : Nat, (K : Int) = k := ⟨k.toNat, by omega⟩
    have hK : K ≤ 6 := by omega
    clear HK hk
    go_enter Tryd.func9, Tryd.ntmps9
    go_wp2_with fail
    refine Calls.mono HK1.out ?_
    rintro z w1 ⟨rfl, rfl⟩
    clear HK1
    have HS : Hid _ := sized_q K s p lc lp pb hK _ HT.out
    go_wp2_with fail
    refine Calls.mono HS.out ?_
    rintro z w2 ⟨rfl, c2⟩
    have HC2 : Hid (Chg (fun _ => False) w w2) := chg_then HC.out c2
    have HT2 : Hid (Tab w2) := tab_keep HT.out c2
    have HB2 : Hid _ := blk_keep HB.out c2 (fun f => f)
    obtain ⟨k0, k1, k2, k3, k4, k5⟩ := cells6 HB2.out
    clear HS c2 HC HT HB
    cases hsz : sizedA K s p with
    | false =>
      have HR : Hid (Ck17.putA ⟨K, s, p, lc, lp, pb⟩ = ([], 7)) := put_size K s p lc lp pb hK hsz
      clear hsz
      go_wp2
      go_ret2
      exact ⟨_, by rw [HR.out]; rfl, by rw [HR.out]; exact byO_nil _ _, HC2.out⟩
    | true =>
      have HP : Hid _ := propsOf_q K s p lc lp pb i1 i2 i3 hK w2 HT2.out
      by_cases hpe : (propA K lc lp pb).2 = 0
      · obtain ⟨o1, o2, o3, o4, o5⟩ := put_ok K s p lc lp pb hK hsz hpe
        have HR1 : Hid ((Ck17.putA ⟨K, s, p, lc, lp, pb⟩).2 = 0) := o1
        have HWR : Hid (∀ ww, Tab ww → Calls Tryd.prog 27 #[.agg #[.int .i64 (K : Int), .int .i64 s, .int .i64 p, .int .i64 lc, .int .i64 lp, .int .i64 pb], .int .i64 (propA K lc lp pb).1] ww fun e w' => ∃ ov, e = .returned ov ∧ ByO w' ww.heap.size ov (Ck17.putA ⟨K, s, p, lc, lp, pb⟩).1 ∧ Chg (fun _ => False) ww w') := fun ww ht => written_q K s p lc lp pb _ hK o3 o4 o5 _ o2 (Nat.le_trans (Ck17.len_put _) (by decide)) ww ht
        rw [hpe] at HP
        generalize (propA K lc lp pb).1 = pr at *
        clear hsz o1 o2 o3 o4 o5 hpe
        go_wp2_with fail
        refine Calls.mono HP.out ?_
        rintro z w3 ⟨rfl, c3⟩
        have HC3 : Hid (Chg (fun _ => False) w w3) := chg_then HC2.out c3
        have HT3 : Hid (Tab w3) := tab_keep HT2.out c3
        clear k0 k1 k2 k3 k4 k5
        obtain ⟨k0, k1, k2, k3, k4, k5⟩ := cells6 (blk_keep HB2.out c3 (fun f => f))
        clear c3 HC2 HT2 HB2 HP
        go_wp2_with fail
        refine Calls.mono (HWR.out _ HT3.out) ?_
        rintro z w4 ⟨ov, rfl, hbo, c4⟩
        have HO : Hid (ByO w4 w.heap.size ov (Ck17.putA ⟨K, s, p, lc, lp, pb⟩).1) := owns_base hbo HC3.out.size
        have HC4 : Hid (Chg (fun _ => False) w w4) := chg_then HC3.out c4
        obtain ⟨oa, oc, rfl⟩ := form1 hbo
        clear hbo c4 HC3 HT3 HWR
        go_wp2
        go_ret2
        exact ⟨_, by rw [HR1.out]; rfl, HO.out, HC4.out⟩
      · have HR : Hid (Ck17.putA ⟨K, s, p, lc, lp, pb⟩ = ([], (propA K lc lp pb).2)) := put_prop K s p lc lp pb hK hsz hpe
        have e1 : ((propA K lc lp pb).2 == 0) = false := by simpa using hpe
        generalize (propA K lc lp pb).2 = er at *
        clear hsz hpe
        go_wp2_with fail
        refine Calls.mono HP.out ?_
        rintro z w3 ⟨rfl, c3⟩
        have HC3 : Hid (Chg (fun _ => False) w w3) := chg_then HC2.out c3
        clear c3 HC2 HT2 HB2 HP k0 k1 k2 k3 k4 k5
        go_wp2
        go_ret2
        exact ⟨_, by rw [HR.out]; rfl, by rw [HR.out]; exact byO_nil _ _, HC3.out⟩
  · have HK1 : Hid _ := HK.out (w.alloc (.cells #[.int .i64 k, .int .i64 s, .int .i64 p, .int .i64 lc, .int .i64 lp, .int .i64 pb] 25))
    rw [show (decide (0 ≤ k) && decide (k ≤ 6)) = false by simp; omega] at HK1
    have HR : Hid (Ck17.putA ⟨k, s, p, lc, lp, pb⟩ = ([], 6)) := put_bad _ hk
    clear HK hk
    go_enter Tryd.func9, Tryd.ntmps9
    go_wp2_with fail
    refine Calls.mono HK1.out ?_
    rintro z w1 ⟨rfl, rfl⟩
    clear HK1
    go_wp2
    go_ret2
    exact ⟨_, by rw [HR.out]; rfl, by rw [HR.out]; exact byO_nil _ _, HC.out⟩
end Go.Proofs.YtannepoclpmedaaDoor
