/- The contracts of the document's rows: At, Turn, Reset, New; of no statement by themselves. -/
import Derived.Test.YtejopgopcocapaaNew
import Derived.Test.YtejopgopcocapaaRef
namespace Go.Proofs.Ytejopgopcocapaa
open Go.RowKit
set_option linter.unusedVariables false

/-- One cell of the document's row is written. -/
theorem Rt.put {w : World} {B r g cap : Nat} {m : Int} {xs : List Int} (h : Rt w B r m (.slice (some ⟨g, 0, none⟩) xs.length cap) xs) (j : Nat) (q : Int) (hj : j < xs.length) :
    Rt (w.setCell ⟨g, j, none⟩ (.int .i64 q)) B r m (.slice (some ⟨g, 0, none⟩) xs.length cap) (xs.set j q) ∧ Chg (fun k => (Value.slice (some ⟨g, 0, none⟩) xs.length cap).ownBlock = some k) w (w.setCell ⟨g, j, none⟩ (.int .i64 q)) := by
  have c1 : Chg (fun k => k = g) w (w.setCell ⟨g, j, none⟩ (.int .i64 q)) := (Chg.refl (fun k => k = g) w).setCell (p := ⟨g, j, none⟩) (.inl rfl) _
  refine ⟨⟨h.hr, blk_keep h.blk c1 (fun e => ?_), ?_⟩, ?_⟩
  · obtain ⟨cur, hcur⟩ := owns_blk h.own (g := g) rfl
    rw [e] at h
    exact ty_ne hcur h.blk (by decide)
  · have := own_set h.own j (.int .i64 q) hj
    rw [ins_set] at this
    rw [List.length_set]
    exact this
  · exact c1.mono (fun i e => .inl (by subst e; rfl))

theorem rat_out (B r : Nat) (m : Int) (v : Value) (xs : List Int) (i : Int) (w : World) (h : Rt w B r m v xs) (hi : i < 0 ∨ (xs.length : Int) ≤ i) : Calls Try.prog 45 #[.pointer (some ⟨r, 0, none⟩), .int .i64 i] w fun e w' => e = .returned (.tuple #[.int .i64 0, .int .i64 7]) ∧ w = w' := by
  obtain ⟨ad, cap, rfl, _⟩ := own_any h.own
  have hc := cell1 h.blk
  generalize xs.length = n at *
  clear h
  by_cases h0 : i < 0
  · go_enter Try.func45, Try.ntmps45
    go_wp2
    go_ret2
    exact ⟨rfl, rfl⟩
  · have h2 : (n : Int) ≤ i := by omega
    have hd : decide (i < 0) = false := by simp; omega
    clear hi h0
    go_enter Try.func45, Try.ntmps45
    go_wp2
    go_ret2
    exact ⟨rfl, rfl⟩

theorem rturn_out (B r : Nat) (m : Int) (v : Value) (xs : List Int) (i : Int) (b : Value) (w : World) (h : Rt w B r m v xs) (hi : i < 0 ∨ (xs.length : Int) ≤ i) : Calls Try.prog 47 #[.pointer (some ⟨r, 0, none⟩), .int .i64 i, b] w fun e w' => e = .returned (.int .i64 7) ∧ w = w' := by
  obtain ⟨ad, cap, rfl, _⟩ := own_any h.own
  have hc := cell1 h.blk
  generalize xs.length = n at *
  clear h
  by_cases h0 : i < 0
  · go_enter Try.func47, Try.ntmps47
    go_wp2
    go_ret
    exact ⟨rfl, rfl⟩
  · have h2 : (n : Int) ≤ i := by omega
    have hd : decide (i < 0) = false := by simp; omega
    clear hi h0
    go_enter Try.func47, Try.ntmps47
    go_wp2
    go_ret
    exact ⟨rfl, rfl⟩

theorem rat_in (B r : Nat) (m : Int) (v : Value) (xs : List Int) (j : Nat) (w : World) (h : Rt w B r m v xs) (hj : j < xs.length) : Calls Try.prog 45 #[.pointer (some ⟨r, 0, none⟩), .int .i64 j] w fun e w' => e = .returned (.tuple #[.int .i64 xs[j], .int .i64 0]) ∧ w = w' := by
  obtain ⟨g, cap, rfl, hnc, _, _, _, _, hcell⟩ := own_some h.own (by omega)
  have hc := cell1 h.blk
  have hx := hcell j _ (ins_at .i64 xs j hj)
  have hd : decide ((j : Int) < 0) = false := by simp
  clear h hcell
  generalize xs[j] = p at *
  generalize xs.length = n at *
  go_enter Try.func45, Try.ntmps45
  go_wp2
  go_ret2
  exact ⟨rfl, rfl⟩

set_option maxHeartbeats 1000000 in
set_option maxRecDepth 100000 in
theorem rturn_in (B r : Nat) (m : Int) (v : Value) (xs : List Int) (j : Nat) (b : Int) (w0 : World) (h : Rt w0 B r m v xs) (hI : In xs) (hj : j < xs.length) : Calls Try.prog 47 #[.pointer (some ⟨r, 0, none⟩), .int .i64 j, .int .i64 b] w0 fun e w' => e = .returned (.int .i64 0) ∧ Rt w' B r m v (xs.set j (Prob.nx xs[j] b)) ∧ Chg (fun k => v.ownBlock = some k) w0 w' := by
  obtain ⟨g, cap, rfl, hnc, _, hg, _, hfz, hcell⟩ := own_some h.own (by omega)
  have hca := cell1 h.blk
  have hx := hcell j _ (ins_at .i64 xs j hj)
  have hz := hfz j
  have hI1 := (hI.at j hj).1
  have hI2 := (hI.at j hj).2
  have hn1 := (Prob.nx_in xs[j] b).1
  have hn2 := (Prob.nx_in xs[j] b).2
  have hd : decide ((j : Int) < 0) = false := by simp
  have HX : Hid (∀ w2, Calls Try.prog 55 #[.int .i64 xs[j], .int .i64 b] w2 fun e w' => e = .returned (.int .i64 (Prob.nx xs[j] b)) ∧ w2 = w') := fun w2 => rnext_any _ _ _ ⟨by omega, by omega⟩
  have HF : Hid (∀ w2, Chg (fun _ => False) w0 w2 → w2.frozen? ⟨g, j, none⟩ = false) := fun w2 c0 => by
    obtain ⟨cur, hcur⟩ := owns_blk h.own (g := g) rfl
    simp [World.frozen?, blk_keep hcur c0 (fun f => f)]
  have HE : Hid (∀ w2 : World, Chg (fun _ => False) w0 w2 → Rt (w2.setCell ⟨g, j, none⟩ (.int .i64 (Prob.nx xs[j] b))) B r m (Value.slice (some ⟨g, 0, none⟩) xs.length cap) (xs.set j (Prob.nx xs[j] b)) ∧ Chg (fun k => (Value.slice (some ⟨g, 0, none⟩) xs.length cap).ownBlock = some k) w0 (w2.setCell ⟨g, j, none⟩ (.int .i64 (Prob.nx xs[j] b)))) := by
    intro w2 c0
    have h2 := h.new c0
    have c1 : Chg (fun k => k = g) w2 (w2.setCell ⟨g, j, none⟩ (.int .i64 (Prob.nx xs[j] b))) := (Chg.refl (fun k => k = g) w2).setCell (p := ⟨g, j, none⟩) (.inl rfl) _
    refine ⟨⟨h2.hr, blk_keep h2.blk c1 (fun e => ?_), ?_⟩, ?_⟩
    · obtain ⟨cur, hcur⟩ := owns_blk h2.own (g := g) rfl
      rw [e] at h2
      exact ty_ne hcur h2.blk (by decide)
    · have := own_set h2.own j (.int .i64 (Prob.nx xs[j] b)) hj
      rw [ins_set] at this
      rw [List.length_set]
      exact this
    · exact (c0.mono (T := fun k => (Value.slice (some ⟨g, 0, none⟩) xs.length cap).ownBlock = some k) (fun _ f => f.elim)).trans c1 (fun i e => .inl (by subst e; rfl))
  clear h hcell hI hfz
  generalize Prob.nx xs[j] b = q at *
  generalize xs[j] = p at *
  generalize xs.length = n at *
  have hd2 : decide (n ≤ j) = false := by simp; omega
  go_enter Try.func47, Try.ntmps47
  go_wp2_with fail
  refine wp_region_last (mk := fun u => #[_, _, _, _, _, _, _, _, _, _, _, _, _, _, _, _, _, _, u 18, u 19, u 20, u 21, u 22, u 23, u 24, u 25, u 26, u 27, u 28, u 29, u 30, u 31, u 32]) (F := fun slot vv ww => (look [(18, .val (.pointer (some ⟨r, 0, none⟩))), (19, .val (.pointer (some ⟨r, 0, none⟩))), (20, .val (.pointer (some ⟨r, 1, none⟩))), (21, .val (.slice (some ⟨g, 0, none⟩) n cap)), (22, .val (.int .i64 (j : Int))), (23, .val (.pointer (some ⟨r, 0, none⟩))), (24, .val (.pointer (some ⟨r, 0, none⟩))), (25, .val (.pointer (some ⟨r, 1, none⟩))), (26, .val (.slice (some ⟨g, 0, none⟩) n cap)), (27, .val (.int .i64 (j : Int))), (28, .val (.pointer (some ⟨g, j, none⟩))), (29, .val (.int .i64 p)), (30, .val (.int .i64 b)), (31, .val (.int .i64 q)), (32, .val (.pointer (some ⟨g, j, none⟩)))] slot).holds vv ww) (fun _ => undef) rfl (by kernel_rfl) 15 _ rfl rfl (by kernel_rfl) ?_ (fun _ v w w' hc h => Fact.stays _ v w w' hc h) ?_ ?_
  · repeat (refine ⟨⟨_, rfl, fun _ _ => rfl⟩, ?_⟩)
    exact trivial
  · refine ⟨?_, ?_, ?_, ?_, ?_, ?_, ?_, ?_, ?_, ?_, ?_, ?_, ?_, ?_, ?_, trivial⟩
    · intro u w hc hd K hK -- 18
      clear hd
      go_simp
      exact hK.out (.pointer (some ⟨r, 0, none⟩)) w (Chg.refl _ _) rfl
    · intro u w hc hd K hK -- 19
      have h18 : (Fact.val (.pointer (some ⟨r, 0, none⟩))).holds (u 18) w := hd.get 0 (by kernel_rfl)
      simp only [Fact.holds] at h18
      clear hd
      simp only [h18] at hK
      go_simp
      exact hK.out (.pointer (some ⟨r, 0, none⟩)) w (Chg.refl _ _) rfl
    · intro u w hc hd K hK -- 20
      have h19 : (Fact.val (.pointer (some ⟨r, 0, none⟩))).holds (u 19) w := hd.get 1 (by kernel_rfl)
      simp only [Fact.holds] at h19
      clear hd
      simp only [h19] at hK
      go_simp
      exact hK.out (.pointer (some ⟨r, 1, none⟩)) w (Chg.refl _ _) rfl
    · intro u w hc hd K hK -- 21
      have h20 : (Fact.val (.pointer (some ⟨r, 1, none⟩))).holds (u 20) w := hd.get 2 (by kernel_rfl)
      simp only [Fact.holds] at h20
      clear hd
      simp only [h20] at hK
      have hcell := cell_chg hca hc
      go_simp
      exact hK.out _ _ (Chg.refl _ _) rfl
    · intro u w hc hd K hK -- 22
      clear hd
      go_simp
      exact hK.out (.int .i64 (j : Int)) w (Chg.refl _ _) rfl
    · intro u w hc hd K hK -- 23
      clear hd
      go_simp
      exact hK.out (.pointer (some ⟨r, 0, none⟩)) w (Chg.refl _ _) rfl
    · intro u w hc hd K hK -- 24
      have h23 : (Fact.val (.pointer (some ⟨r, 0, none⟩))).holds (u 23) w := hd.get 5 (by kernel_rfl)
      simp only [Fact.holds] at h23
      clear hd
      simp only [h23] at hK
      go_simp
      exact hK.out (.pointer (some ⟨r, 0, none⟩)) w (Chg.refl _ _) rfl
    · intro u w hc hd K hK -- 25
      have h24 : (Fact.val (.pointer (some ⟨r, 0, none⟩))).holds (u 24) w := hd.get 6 (by kernel_rfl)
      simp only [Fact.holds] at h24
      clear hd
      simp only [h24] at hK
      go_simp
      exact hK.out (.pointer (some ⟨r, 1, none⟩)) w (Chg.refl _ _) rfl
    · intro u w hc hd K hK -- 26
      have h25 : (Fact.val (.pointer (some ⟨r, 1, none⟩))).holds (u 25) w := hd.get 7 (by kernel_rfl)
      simp only [Fact.holds] at h25
      clear hd
      simp only [h25] at hK
      have hcell := cell_chg hca hc
      go_simp
      exact hK.out _ _ (Chg.refl _ _) rfl
    · intro u w hc hd K hK -- 27
      clear hd
      go_simp
      exact hK.out (.int .i64 (j : Int)) w (Chg.refl _ _) rfl
    · intro u w hc hd K hK -- 28
      have h26 : (Fact.val (.slice (some ⟨g, 0, none⟩) n cap)).holds (u 26) w := hd.get 8 (by kernel_rfl)
      simp only [Fact.holds] at h26
      have h27 : (Fact.val (.int .i64 (j : Int))).holds (u 27) w := hd.get 9 (by kernel_rfl)
      simp only [Fact.holds] at h27
      clear hd
      simp only [h26, h27] at hK
      go_simp
      exact hK.out (.pointer (some ⟨g, j, none⟩)) w (Chg.refl _ _) rfl
    · intro u w hc hd K hK -- 29
      have h28 : (Fact.val (.pointer (some ⟨g, j, none⟩))).holds (u 28) w := hd.get 10 (by kernel_rfl)
      simp only [Fact.holds] at h28
      clear hd
      simp only [h28] at hK
      have hcell := cell_chg hx hc
      go_simp
      exact hK.out _ _ (Chg.refl _ _) rfl
    · intro u w hc hd K hK -- 30
      clear hd
      go_simp
      exact hK.out (.int .i64 b) w (Chg.refl _ _) rfl
    · intro u w hc hd K hK -- 31
      have h29 : (Fact.val (.int .i64 p)).holds (u 29) w := hd.get 11 (by kernel_rfl)
      simp only [Fact.holds] at h29
      have h30 : (Fact.val (.int .i64 b)).holds (u 30) w := hd.get 12 (by kernel_rfl)
      simp only [Fact.holds] at h30
      clear hd
      simp only [h29, h30] at hK
      go_simp
      go_at_call 55
      refine (HX.out w).mono ?_
      rintro e w2 ⟨rfl, rfl⟩
      exact hK.out _ _ (Chg.refl _ _) rfl
    · intro u w hc hd K hK -- 32
      have h21 : (Fact.val (.slice (some ⟨g, 0, none⟩) n cap)).holds (u 21) w := hd.get 3 (by kernel_rfl)
      simp only [Fact.holds] at h21
      have h22 : (Fact.val (.int .i64 (j : Int))).holds (u 22) w := hd.get 4 (by kernel_rfl)
      simp only [Fact.holds] at h22
      clear hd
      simp only [h21, h22] at hK
      go_simp
      exact hK.out (.pointer (some ⟨g, j, none⟩)) w (Chg.refl _ _) rfl
  · intro u w hc hA K hK
    have a31 := hA.at 31 (by kernel_rfl)
    have a32 := hA.at 32 (by kernel_rfl)
    clear hA
    have e31 : u 31 = .int .i64 q := a31
    have e32 : u 32 = .pointer (some ⟨g, j, none⟩) := a32
    have hx2 := cell_chg hx hc
    have hz2 := HF.out w hc
    have HE2 : Hid (Rt (w.setCell ⟨g, j, none⟩ (.int .i64 q)) B r m (Value.slice (some ⟨g, 0, none⟩) n cap) (xs.set j q) ∧ Chg (fun k => (Value.slice (some ⟨g, 0, none⟩) n cap).ownBlock = some k) w0 (w.setCell ⟨g, j, none⟩ (.int .i64 q))) := HE.out w hc
    go_simp
    refine hK.out _ _ ?_
    go_simp
    go_wp2
    go_ret
    exact ⟨rfl, HE2.out.1, HE2.out.2⟩
set_option maxHeartbeats 1000000 in
set_option maxRecDepth 100000 in
theorem rreset_any (B r : Nat) (m : Int) (v : Value) (xs : List Int) (w0 : World) (h : Rt w0 B r m v xs) (hn : xs.length ≤ 1048576) : Calls Try.prog 42 #[.pointer (some ⟨r, 0, none⟩)] w0 fun e w' => e = .returned (.tuple #[]) ∧ Rt w' B r m v (List.replicate xs.length 1024) ∧ Chg (fun k => v.ownBlock = some k) w0 w' := by
  by_cases h0 : xs.length = 0
  · have hx : xs = [] := List.eq_nil_of_length_eq_zero h0
    subst hx
    have HH : Hid (Rt w0 B r m v []) := h
    obtain ⟨ad, cap, rfl, _⟩ := own_any h.own
    have hca := cell1 h.blk
    clear h
    go_enter Try.func42, Try.ntmps42
    go_wp2_with fail
    refine wp_loop_rounds 1 ?_
    rw [rounds_succ]
    go_wp2
    go_end0
    exact ⟨rfl, HH.out, Chg.refl _ _⟩
  · obtain ⟨g, cap, rfl, hnc, _, hg, _, hfz, hcell⟩ := own_some h.own (by omega)
    have HA : Hid (half xs.length xs = List.replicate xs.length 1024) := half_all xs
    have HS : Hid (∀ k, k < xs.length → (half k xs).set k 1024 = half (k + 1) xs) := fun k hk => half_set hk
    have HL : Hid (∀ k, k ≤ xs.length → (half k xs).length = xs.length) := fun k hk => half_len hk
    have hca := cell1 h.blk
    have h0s : Rt w0 B r m (.slice (some ⟨g, 0, none⟩) xs.length cap) (half 0 xs) := h
    clear hcell h hfz
    generalize xs.length = n at *
    go_enter Try.func42, Try.ntmps42
    go_wp2_with fail
    go_loopw [2] (fun i wr => ∃ k : Nat, k ≤ n ∧ i = .int .i64 k ∧ Rt wr B r m (.slice (some ⟨g, 0, none⟩) n cap) (half k xs) ∧ Chg (fun k => (Value.slice (some ⟨g, 0, none⟩) n cap).ownBlock = some k) w0 wr) (fun i _ => n - (intOf i).toNat)
    case atStart => exact ⟨0, Nat.zero_le _, rfl, h0s, Chg.refl _ _⟩
    case round =>
      clear h0s hca
      obtain ⟨k, hk, rfl, ho, hc⟩ := hrel
      have hl := HL.out k hk
      have hca := cell1 ho.blk
      have HO : Hid (Rt wr B r m (.slice (some ⟨g, 0, none⟩) n cap) (half k xs)) := ho
      by_cases hlt : k < n
      · have hcf : w_cf wr g k := by
          have hown := ho.own
          rw [hl] at hown
          obtain ⟨g2, cap2, e, _, _, _, _, hfz, hcell⟩ := own_some hown (by omega)
          simp only [Value.slice.injEq, Option.some.injEq, Addr.mk.injEq, true_and, and_true] at e
          obtain ⟨rfl, _⟩ := e
          exact ⟨⟨_, hcell k _ (ins_at .i64 (half k xs) k (by omega))⟩, hfz k⟩
        obtain ⟨⟨z, ck⟩, fk⟩ := hcf
        have R : Hid (Rt (wr.setCell ⟨g, k, none⟩ (.int .i64 1024)) B r m (.slice (some ⟨g, 0, none⟩) n cap) (half (k + 1) xs) ∧ Chg (fun k => (Value.slice (some ⟨g, 0, none⟩) n cap).ownBlock = some k) w0 (wr.setCell ⟨g, k, none⟩ (.int .i64 1024))) := by
          have h1 := HO.out
          rw [← hl] at h1
          obtain ⟨h2, c2⟩ := h1.put k 1024 (by omega)
          rw [HS.out k hlt, hl] at h2
          rw [hl] at c2
          exact ⟨h2, hc.trans c2 (fun i e => .inl e)⟩
        clear ho hc HO hl
        go_wp2
        go_roundw
        case rel => exact ⟨k + 1, by omega, by go_num, R.out.1, R.out.2⟩
        case measure => simp [intOf]; omega
      · obtain rfl : k = n := by omega
        rw [HA.out] at ho
        clear HO
        go_wp2
        go_end0
        exact ⟨rfl, ho, hc⟩

theorem infoI : (Try.prog.info? 3).map (fun i => (i.zero, i.size, i.bytes)) = some (some (.int .i64 0), 1, 8) := by kernel_rfl

theorem rnew_out (i : Int) (w : World) (hi : i < 0 ∨ 1048576 < i) : Calls Try.prog 21 #[.int .i64 i] w fun e w' => e = .returned (.tuple #[.pointer none, .int .i64 7]) ∧ w = w' := by
  by_cases h0 : i < 0
  · go_enter Try.func21, Try.ntmps21
    go_wp2
    go_ret2
    exact ⟨rfl, rfl⟩
  · have h1 : 1048576 < i := by omega
    have hd : decide (i < 0) = false := by simp; omega
    clear hi h0
    go_enter Try.func21, Try.ntmps21
    go_wp2
    go_ret2
    exact ⟨rfl, rfl⟩

set_option maxHeartbeats 1000000 in
set_option maxRecDepth 100000 in
theorem rnew_in (n : Nat) (w : World) (hn : n ≤ 1048576) : Calls Try.prog 21 #[.int .i64 n] w fun e w' => ∃ a v, e = .returned (.tuple #[.pointer (some ⟨a, 0, none⟩), .int .i64 0]) ∧ w.heap.size ≤ a ∧ Rt w' w.heap.size a (n : Int) v (List.replicate n 1024) ∧ Chg (fun _ => False) w w' := by
  obtain ⟨i0, hi, hz0, hz1, hz2⟩ := info_parts infoI
  have hd : decide ((n : Int) < 0) = false := by simp
  have hd2 : decide (1048576 < (n : Int)) = false := by simp; omega
  go_enter Try.func21, Try.ntmps21
  go_wp2_with (at_make; refine wpList_make_full _ rfl (.tmp 12) (.tmp 12) 87 rfl w.heap.size 3 i0 (.int .i64 0) 1 Try.underlying87 hi hz0 hz1 .i64 .i64 _ _ n rfl rfl rfl rfl (by rw [hz2]; omega) (by unfold maxLen; omega) (Nat.le_refl _) ?_)
  intro w1 ho hg
  have c1 : Chg (fun _ => False) w w1 := (Chg.refl _ w).grown hg (fun k e => by cases e)
  have c2 := chg_then c1 (chg_one w1 (.cells #[.int .i64 (n : Int), .slice (some ⟨w.heap.size, 0, none⟩) n n] 89))
  have HS : Hid (Rt (w1.alloc (.cells #[.int .i64 (n : Int), .slice (some ⟨w.heap.size, 0, none⟩) n n] 89)) w.heap.size w1.heap.size (n : Int) (.slice (some ⟨w.heap.size, 0, none⟩) n n) (List.replicate n 0)) := by
    refine ⟨c1.size, heap_alloc_last w1 _, ?_⟩
    have h2 := ho.alloc (.cells #[.int .i64 (n : Int), .slice (some ⟨w.heap.size, 0, none⟩) n n] 89)
    rw [toList_madeCells_one] at h2
    simpa [ins] using h2
  have hs1 := c1.size
  clear ho hg c1
  go_wp2_with fail
  have hl : (List.replicate n (0 : Int)).length = n := by simp
  refine (rreset_any w.heap.size w1.heap.size (n : Int) _ (List.replicate n 0) _ HS.out (by omega)).mono ?_
  rintro e w3 ⟨rfl, h3, c3⟩
  rw [hl] at h3
  have HC : Hid (Chg (fun _ => False) w w3) := c2.trans c3 (fun i e => .inr (by simp only [Value.ownBlock, Option.some.injEq] at e; omega))
  have H3 : Hid (Rt w3 w.heap.size w1.heap.size (n : Int) (.slice (some ⟨w.heap.size, 0, none⟩) n n) (List.replicate n 1024)) := h3
  clear h3 c3 c2 HS
  go_wp2
  go_ret2
  exact ⟨_, _, rfl, hs1, H3.out, HC.out⟩
end Go.Proofs.Ytejopgopcocapaa
