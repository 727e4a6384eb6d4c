/- The contracts of a row's calls: Len, has, At, Turn, Reset, New; of no statement by themselves. -/
import Derived.Test.YtejopgopcocapaaMem
import Derived.Test.YtejopgopcocapaaNum
import Derived.Test.YtejopgopcocapaaFacts
import Derived.Deep.DeepCutAuto
namespace Go.Proofs.Ytejopgopcocapaa
open Go.RowKit
set_option linter.unusedVariables false

theorem cell00 {w : World} {a : Nat} {x : Value} {t : TypeId} (h : w.heap[a]? = some (.cells #[x] t (0, 0))) : w.cell? ⟨a, 0, none⟩ = some x := by simp [World.cell?, h]

theorem has_in (B a : Nat) (v : Value) (xs : List Int) (j : Nat) (w : World) (h : St w B a v xs) (hj : j < xs.length) : Calls Try.prog 29 #[.pointer (some ⟨a, 0, none⟩), .int .i64 j] w fun e w' => e = .returned (.bool true) ∧ w = w' := by
  obtain ⟨ad, cap, rfl, _⟩ := own_any h.own
  have hc := cell00 h.blk
  generalize xs.length = n at *
  clear h
  go_enter Try.func29, Try.ntmps29
  go_wp2
  go_ret
  exact ⟨rfl, rfl⟩

theorem has_out (B a : Nat) (v : Value) (xs : List Int) (i : Int) (w : World) (h : St w B a v xs) (hi : i < 0 ∨ (xs.length : Int) ≤ i) : Calls Try.prog 29 #[.pointer (some ⟨a, 0, none⟩), .int .i64 i] w fun e w' => e = .returned (.bool false) ∧ w = w' := by
  obtain ⟨ad, cap, rfl, _⟩ := own_any h.own
  have hc := cell00 h.blk
  generalize xs.length = n at *
  clear h
  by_cases h0 : i < 0
  · have hd : decide (0 ≤ i) = false := by simp; omega
    go_enter Try.func29, Try.ntmps29
    go_wp2
    go_ret
    exact ⟨rfl, rfl⟩
  · have h1 : 0 ≤ i := by omega
    have h2 : (n : Int) ≤ i := by omega
    have hd : decide (i < (n : Int)) = false := by simp; omega
    clear hi h0
    go_enter Try.func29, Try.ntmps29
    go_wp2
    go_ret
    exact ⟨rfl, rfl⟩

theorem at_out (B a : Nat) (v : Value) (xs : List Int) (i : Int) (w : World) (h : St w B a v xs) (hi : i < 0 ∨ (xs.length : Int) ≤ i) : Calls Try.prog 13 #[.pointer (some ⟨a, 0, none⟩), .int .i64 i] w fun e w' => e = .returned (.tuple #[.int .i64 0, .int .i64 7]) ∧ w = w' := by
  go_enter Try.func13, Try.ntmps13
  go_wp2_with fail
  refine (has_out B a v xs i _ h hi).mono ?_
  rintro e w1 ⟨rfl, rfl⟩
  go_wp2
  go_ret2
  exact ⟨rfl, rfl⟩

theorem turn_out (B a : Nat) (v : Value) (xs : List Int) (i : Int) (b : Value) (w : World) (h : St w B a v xs) (hi : i < 0 ∨ (xs.length : Int) ≤ i) : Calls Try.prog 41 #[.pointer (some ⟨a, 0, none⟩), .int .i64 i, b] w fun e w' => e = .returned (.int .i64 7) ∧ w = w' := by
  go_enter Try.func41, Try.ntmps41
  go_wp2_with fail
  refine (has_out B a v xs i _ h hi).mono ?_
  rintro e w1 ⟨rfl, rfl⟩
  go_wp2
  go_ret
  exact ⟨rfl, rfl⟩

theorem at_in (B a : Nat) (v : Value) (xs : List Int) (j : Nat) (w : World) (h : St w B a v xs) (hI : In xs) (hj : j < xs.length) : Calls Try.prog 13 #[.pointer (some ⟨a, 0, none⟩), .int .i64 j] w fun e w' => e = .returned (.tuple #[.int .i64 xs[j], .int .i64 0]) ∧ w = w' := by
  obtain ⟨g, cap, rfl, hnc, _, _, _, _, hcell⟩ := own_some h.own (by omega)
  have hc := cell00 h.blk
  have hx := hcell j _ (ins_at .u16 xs j hj)
  have hI1 := (hI.at j hj).1
  have hI2 := (hI.at j hj).2
  have HH : Hid (∀ w2, w2 = w → Calls Try.prog 29 #[.pointer (some ⟨a, 0, none⟩), .int .i64 j] w2 fun e w' => e = .returned (.bool true) ∧ w2 = w') := fun w2 e => by subst e; exact has_in B a _ xs j w2 h hj
  clear h hcell hI
  generalize xs[j] = p at *
  generalize xs.length = n at *
  go_enter Try.func13, Try.ntmps13
  go_wp2_with fail
  refine (HH.out _ rfl).mono ?_
  rintro e w1 ⟨rfl, rfl⟩
  go_wp2
  go_ret2
  exact ⟨rfl, rfl⟩

theorem wrap_i64 {p : Int} (h : 0 ≤ p) (h2 : p ≤ 2047) : IntKind.i64.wrap p = p := by simp [IntKind.wrap, IntKind.signed, IntKind.bits]; omega
theorem wrap_u16 {p : Int} (h : 0 ≤ p) (h2 : p ≤ 2047) : IntKind.u16.wrap p = p := by simp [IntKind.wrap, IntKind.signed, IntKind.bits]; omega

set_option maxHeartbeats 1000000 in
set_option maxRecDepth 100000 in
theorem turn_in (B a : Nat) (v : Value) (xs : List Int) (j : Nat) (b : Int) (w0 : World) (h : St w0 B a v xs) (hI : In xs) (hj : j < xs.length) : Calls Try.prog 41 #[.pointer (some ⟨a, 0, none⟩), .int .i64 j, .int .i64 b] w0 fun e w' => e = .returned (.int .i64 0) ∧ St w' B a v (xs.set j (Prob.nx xs[j] b)) ∧ Chg (fun k => v.ownBlock = some k) w0 w' := by
  obtain ⟨g, cap, rfl, hnc, _, hg, _, hfz, hcell⟩ := own_some h.own (by omega)
  have hca := cell00 h.blk
  have hx := hcell j _ (ins_at .u16 xs j hj)
  have hz := hfz j
  have hI1 := (hI.at j hj).1
  have hI2 := (hI.at j hj).2
  have hn1 := (Prob.nx_in xs[j] b).1
  have hn2 := (Prob.nx_in xs[j] b).2
  have HH : Hid (∀ w2, w2 = w0 → Calls Try.prog 29 #[.pointer (some ⟨a, 0, none⟩), .int .i64 j] w2 fun e w' => e = .returned (.bool true) ∧ w2 = w') := fun w2 e => by subst e; exact has_in B a _ xs j w2 h hj
  have HX : Hid (∀ w2, Calls Try.prog 53 #[.int .i64 xs[j], .int .i64 b] w2 fun e w' => e = .returned (.int .i64 (Prob.nx xs[j] b)) ∧ w2 = w') := fun w2 => next_any _ _ _ ⟨by omega, by omega⟩
  have HF : Hid (∀ w2, Chg (fun _ => False) w0 w2 → w2.frozen? ⟨g, j, none⟩ = false) := fun w2 c0 => by
    obtain ⟨cur, hcur⟩ := owns_blk h.own (g := g) rfl
    simp [World.frozen?, blk_keep hcur c0 (fun f => f)]
  have HE : Hid (∀ w2 : World, Chg (fun _ => False) w0 w2 → St (w2.setCell ⟨g, j, none⟩ (.int .u16 (Prob.nx xs[j] b))) B a (Value.slice (some ⟨g, 0, none⟩) xs.length cap) (xs.set j (Prob.nx xs[j] b)) ∧ Chg (fun k => (Value.slice (some ⟨g, 0, none⟩) xs.length cap).ownBlock = some k) w0 (w2.setCell ⟨g, j, none⟩ (.int .u16 (Prob.nx xs[j] b)))) := by
    intro w2 c0
    have h2 := h.new c0
    have c1 : Chg (fun k => k = g) w2 (w2.setCell ⟨g, j, none⟩ (.int .u16 (Prob.nx xs[j] b))) := (Chg.refl (fun k => k = g) w2).setCell (p := ⟨g, j, none⟩) (.inl rfl) _
    refine ⟨⟨h2.ha, blk_keep h2.blk c1 (fun e => ?_), ?_⟩, ?_⟩
    · obtain ⟨cur, hcur⟩ := owns_blk h2.own (g := g) rfl
      rw [e] at h2
      exact ty_ne hcur h2.blk (by decide)
    · have := own_set h2.own j (.int .u16 (Prob.nx xs[j] b)) hj
      rw [ins_set] at this
      rw [List.length_set]
      exact this
    · exact (c0.mono (T := fun k => (Value.slice (some ⟨g, 0, none⟩) xs.length cap).ownBlock = some k) (fun _ f => f.elim)).trans c1 (fun i e => .inl (by subst e; rfl))
  clear h hcell hI hfz
  generalize Prob.nx xs[j] b = q at *
  generalize xs[j] = p at *
  generalize xs.length = n at *
  have HW1 : Hid (IntKind.i64.wrap p = p) := wrap_i64 hI1 hI2
  have HW2 : Hid (IntKind.u16.wrap q = q) := wrap_u16 hn1 hn2
  go_enter Try.func41, Try.ntmps41
  go_wp2_with fail
  refine (HH.out _ rfl).mono ?_
  rintro e w1 ⟨rfl, rfl⟩
  go_wp2_with fail
  refine wp_region_last (mk := fun u => #[_, _, _, _, _, _, _, _, _, _, _, u 11, u 12, u 13, u 14, u 15, u 16, u 17, u 18, u 19, u 20, u 21, u 22, u 23, u 24, u 25, u 26, u 27]) (F := fun slot vv ww => (look [(11, .val (.pointer (some ⟨a, 0, none⟩))), (12, .val (.pointer (some ⟨a, 0, none⟩))), (13, .val (.pointer (some ⟨a, 0, none⟩))), (14, .val (.slice (some ⟨g, 0, none⟩) n cap)), (15, .val (.int .i64 (j : Int))), (16, .val (.pointer (some ⟨a, 0, none⟩))), (17, .val (.pointer (some ⟨a, 0, none⟩))), (18, .val (.pointer (some ⟨a, 0, none⟩))), (19, .val (.slice (some ⟨g, 0, none⟩) n cap)), (20, .val (.int .i64 (j : Int))), (21, .val (.pointer (some ⟨g, j, none⟩))), (22, .val (.int .u16 p)), (23, .val (.int .i64 p)), (24, .val (.int .i64 b)), (25, .val (.int .i64 q)), (26, .val (.int .u16 q)), (27, .val (.pointer (some ⟨g, j, none⟩)))] slot).holds vv ww) (fun _ => undef) rfl (by kernel_rfl) 17 _ rfl rfl (by kernel_rfl) ?_ (fun _ v w w' hc h => Fact.stays _ v w w' hc h) ?_ ?_
  · repeat (refine ⟨⟨_, rfl, fun _ _ => rfl⟩, ?_⟩)
    exact trivial
  · refine ⟨?_, ?_, ?_, ?_, ?_, ?_, ?_, ?_, ?_, ?_, ?_, ?_, ?_, ?_, ?_, ?_, ?_, trivial⟩
    · intro u w hc hd K hK -- 11
      clear hd
      go_simp
      exact hK.out (.pointer (some ⟨a, 0, none⟩)) w (Chg.refl _ _) rfl
    · intro u w hc hd K hK -- 12
      have h11 : (Fact.val (.pointer (some ⟨a, 0, none⟩))).holds (u 11) w := hd.get 0 (by kernel_rfl)
      simp only [Fact.holds] at h11
      clear hd
      simp only [h11] at hK
      go_simp
      exact hK.out (.pointer (some ⟨a, 0, none⟩)) w (Chg.refl _ _) rfl
    · intro u w hc hd K hK -- 13
      have h12 : (Fact.val (.pointer (some ⟨a, 0, none⟩))).holds (u 12) w := hd.get 1 (by kernel_rfl)
      simp only [Fact.holds] at h12
      clear hd
      simp only [h12] at hK
      go_simp
      exact hK.out (.pointer (some ⟨a, 0, none⟩)) w (Chg.refl _ _) rfl
    · intro u w hc hd K hK -- 14
      have h13 : (Fact.val (.pointer (some ⟨a, 0, none⟩))).holds (u 13) w := hd.get 2 (by kernel_rfl)
      simp only [Fact.holds] at h13
      clear hd
      simp only [h13] at hK
      have hcell := cell_chg hca hc
      go_simp
      exact hK.out _ _ (Chg.refl _ _) rfl
    · intro u w hc hd K hK -- 15
      clear hd
      go_simp
      exact hK.out (.int .i64 (j : Int)) w (Chg.refl _ _) rfl
    · intro u w hc hd K hK -- 16
      clear hd
      go_simp
      exact hK.out (.pointer (some ⟨a, 0, none⟩)) w (Chg.refl _ _) rfl
    · intro u w hc hd K hK -- 17
      have h16 : (Fact.val (.pointer (some ⟨a, 0, none⟩))).holds (u 16) w := hd.get 5 (by kernel_rfl)
      simp only [Fact.holds] at h16
      clear hd
      simp only [h16] at hK
      go_simp
      exact hK.out (.pointer (some ⟨a, 0, none⟩)) w (Chg.refl _ _) rfl
    · intro u w hc hd K hK -- 18
      have h17 : (Fact.val (.pointer (some ⟨a, 0, none⟩))).holds (u 17) w := hd.get 6 (by kernel_rfl)
      simp only [Fact.holds] at h17
      clear hd
      simp only [h17] at hK
      go_simp
      exact hK.out (.pointer (some ⟨a, 0, none⟩)) w (Chg.refl _ _) rfl
    · intro u w hc hd K hK -- 19
      have h18 : (Fact.val (.pointer (some ⟨a, 0, none⟩))).holds (u 18) w := hd.get 7 (by kernel_rfl)
      simp only [Fact.holds] at h18
      clear hd
      simp only [h18] at hK
      have hcell := cell_chg hca hc
      go_simp
      exact hK.out _ _ (Chg.refl _ _) rfl
    · intro u w hc hd K hK -- 20
      clear hd
      go_simp
      exact hK.out (.int .i64 (j : Int)) w (Chg.refl _ _) rfl
    · intro u w hc hd K hK -- 21
      have h19 : (Fact.val (.slice (some ⟨g, 0, none⟩) n cap)).holds (u 19) w := hd.get 8 (by kernel_rfl)
      simp only [Fact.holds] at h19
      have h20 : (Fact.val (.int .i64 (j : Int))).holds (u 20) w := hd.get 9 (by kernel_rfl)
      simp only [Fact.holds] at h20
      clear hd
      simp only [h19, h20] at hK
      go_simp
      exact hK.out (.pointer (some ⟨g, j, none⟩)) w (Chg.refl _ _) rfl
    · intro u w hc hd K hK -- 22
      have h21 : (Fact.val (.pointer (some ⟨g, j, none⟩))).holds (u 21) w := hd.get 10 (by kernel_rfl)
      simp only [Fact.holds] at h21
      clear hd
      simp only [h21] at hK
      have hcell := cell_chg hx hc
      go_simp
      exact hK.out _ _ (Chg.refl _ _) rfl
    · intro u w hc hd K hK -- 23
      have h22 : (Fact.val (.int .u16 p)).holds (u 22) w := hd.get 11 (by kernel_rfl)
      simp only [Fact.holds] at h22
      clear hd
      simp only [h22] at hK
      go_simp
      rw [HW1.out]
      exact hK.out (.int .i64 p) w (Chg.refl _ _) rfl
    · intro u w hc hd K hK -- 24
      clear hd
      go_simp
      exact hK.out (.int .i64 b) w (Chg.refl _ _) rfl
    · intro u w hc hd K hK -- 25
      have h23 : (Fact.val (.int .i64 p)).holds (u 23) w := hd.get 12 (by kernel_rfl)
      simp only [Fact.holds] at h23
      have h24 : (Fact.val (.int .i64 b)).holds (u 24) w := hd.get 13 (by kernel_rfl)
      simp only [Fact.holds] at h24
      clear hd
      simp only [h23, h24] at hK
      go_simp
      go_at_call 53
      refine (HX.out w).mono ?_
      rintro e w2 ⟨rfl, rfl⟩
      exact hK.out _ _ (Chg.refl _ _) rfl
    · intro u w hc hd K hK -- 26
      have h25 : (Fact.val (.int .i64 q)).holds (u 25) w := hd.get 14 (by kernel_rfl)
      simp only [Fact.holds] at h25
      clear hd
      simp only [h25] at hK
      go_simp
      rw [HW2.out]
      exact hK.out (.int .u16 q) w (Chg.refl _ _) rfl
    · intro u w hc hd K hK -- 27
      have h14 : (Fact.val (.slice (some ⟨g, 0, none⟩) n cap)).holds (u 14) w := hd.get 3 (by kernel_rfl)
      simp only [Fact.holds] at h14
      have h15 : (Fact.val (.int .i64 (j : Int))).holds (u 15) w := hd.get 4 (by kernel_rfl)
      simp only [Fact.holds] at h15
      clear hd
      simp only [h14, h15] at hK
      go_simp
      exact hK.out (.pointer (some ⟨g, j, none⟩)) w (Chg.refl _ _) rfl
  · intro u w hc hA K hK
    have a26 := hA.at 26 (by kernel_rfl)
    have a27 := hA.at 27 (by kernel_rfl)
    clear hA
    have e26 : u 26 = .int .u16 q := a26
    have e27 : u 27 = .pointer (some ⟨g, j, none⟩) := a27
    have hx2 := cell_chg hx hc
    have hz2 := HF.out w hc
    have HE2 : Hid (St (w.setCell ⟨g, j, none⟩ (.int .u16 q)) B a (Value.slice (some ⟨g, 0, none⟩) n cap) (xs.set j q) ∧ Chg (fun k => (Value.slice (some ⟨g, 0, none⟩) n cap).ownBlock = some k) w0 (w.setCell ⟨g, j, none⟩ (.int .u16 q))) := HE.out w hc
    go_simp
    refine hK.out _ _ ?_
    go_simp
    go_wp2
    go_ret
    exact ⟨rfl, HE2.out.1, HE2.out.2⟩
end Go.Proofs.Ytejopgopcocapaa
