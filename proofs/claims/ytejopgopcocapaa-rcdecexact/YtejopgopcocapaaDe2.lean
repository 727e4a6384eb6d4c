/- The contracts of the program's decoder's halve, which may give up; of no statement by themselves. -/
import Derived.Test.YtejopgopcocapaaDd
import Derived.Deep.DeepCutAuto
namespace Go.Proofs.Ytejopgopcocapaa
open Go.RowKit
set_option linter.unusedVariables false

set_option maxHeartbeats 2000000 in
set_option maxRecDepth 100000 in
theorem dhalve_lo (B a : Nat) (v : Value) (bs : List Nat) (d : Rc.D) (w0 : World) (h : Dcd w0 B a v bs d) (hC : d.C < d.R) (hR : d.R ≤ 4294967295) (h1 : d.C < d.R / 2) : Calls Try.prog 36 #[.pointer (some ⟨a, 0, none⟩)] w0 fun e w' => e = .returned (.int .u32 0) ∧ Dcd w' B a v bs ⟨d.n, d.R / 2, d.C⟩ ∧ Chg (fun z => z = a) w0 w' := by
  have HH : Hid (Dcd w0 B a v bs d) := h
  obtain ⟨_, _, k2, _, fz⟩ := rcells4 h.blk
  have f2 := fz 2
  obtain ⟨r, hr⟩ : ∃ r : Int, r = (d.R : Int) := ⟨_, rfl⟩
  obtain ⟨c, hc⟩ : ∃ c : Int, c = (d.C : Int) := ⟨_, rfl⟩
  obtain ⟨m, hm⟩ : ∃ m : Int, m = ((d.R / 2 : Nat) : Int) := ⟨_, rfl⟩
  have r0 : 0 ≤ r := by omega
  have c0 : 0 ≤ c := by omega
  have m0 : 0 ≤ m := by omega
  have c9 : c ≤ 4294967295 := by omega
  have hq : r / 2 = m := by omega
  have hm9 : m % 4294967296 = m := by omega
  have hq2 : r.tdiv 2 = m := by rw [Int.tdiv_eq_ediv_of_nonneg r0]; exact hq
  have HM : Hid (m = ((d.R / 2 : Nat) : Int)) := hm
  have HC0 : Hid (c = (d.C : Int)) := hc
  obtain ⟨p1, q1⟩ := h.put 2 (.int .u32 m) ⟨d.n, d.R / 2, d.C⟩ (by simp; omega)
  have HP : Hid (Dcd (w0.setCell ⟨a, 2, none⟩ (.int .u32 m)) B a v bs ⟨d.n, d.R / 2, d.C⟩) := p1
  have HQ : Hid (Chg (fun z => z = a) w0 (w0.setCell ⟨a, 2, none⟩ (.int .u32 m))) := q1
  rw [← hr] at k2
  have x1 : decide (m ≤ c) = false := by simp; omega
  have x2 : ¬ m ≤ c := by omega
  clear h1
  clear p1 q1 h fz hr hc hm hR hC
  go_enter Try.func36, Try.ntmps36
  go_upto_region 3 with fail
  clear k2 f2
  generalize w0.setCell ⟨a, 2, none⟩ (.int .u32 m) = w1 at *
  have g2 : w1.cell? ⟨a, 2, none⟩ = some (.int .u32 m) := by have := (rcells4 HP.out.blk).2.2.1; rw [HM.out]; exact this
  have g3 : w1.cell? ⟨a, 3, none⟩ = some (.int .u32 c) := by have := (rcells4 HP.out.blk).2.2.2.1; rw [HC0.out]; exact this
  go_quiet (fail)
  rename_i nq
  go_upto_region 6 with fail
  go_quiet (fail)
  rename_i nq2
  go_wp2
  go_ret
  exact ⟨rfl, HP.out.new (chg_drewN _ _), HQ.out.trans (chg_drewN _ _) (fun _ f => f.elim)⟩

set_option maxHeartbeats 2000000 in
set_option maxRecDepth 100000 in
theorem dhalve_hi (B a : Nat) (v : Value) (bs : List Nat) (d : Rc.D) (w0 : World) (h : Dcd w0 B a v bs d) (hC : d.C < d.R) (hR : d.R ≤ 4294967295) (h1 : d.R / 2 ≤ d.C) (h2 : d.C - d.R / 2 < d.R / 2) : Calls Try.prog 36 #[.pointer (some ⟨a, 0, none⟩)] w0 fun e w' => e = .returned (.int .u32 1) ∧ Dcd w' B a v bs ⟨d.n, d.R / 2, d.C - d.R / 2⟩ ∧ Chg (fun z => z = a) w0 w' := by
  have HH : Hid (Dcd w0 B a v bs d) := h
  obtain ⟨_, _, k2, _, fz⟩ := rcells4 h.blk
  have f2 := fz 2
  obtain ⟨r, hr⟩ : ∃ r : Int, r = (d.R : Int) := ⟨_, rfl⟩
  obtain ⟨c, hc⟩ : ∃ c : Int, c = (d.C : Int) := ⟨_, rfl⟩
  obtain ⟨m, hm⟩ : ∃ m : Int, m = ((d.R / 2 : Nat) : Int) := ⟨_, rfl⟩
  have r0 : 0 ≤ r := by omega
  have c0 : 0 ≤ c := by omega
  have m0 : 0 ≤ m := by omega
  have c9 : c ≤ 4294967295 := by omega
  have hq : r / 2 = m := by omega
  have hm9 : m % 4294967296 = m := by omega
  have hq2 : r.tdiv 2 = m := by rw [Int.tdiv_eq_ediv_of_nonneg r0]; exact hq
  have HM : Hid (m = ((d.R / 2 : Nat) : Int)) := hm
  have HC0 : Hid (c = (d.C : Int)) := hc
  obtain ⟨p1, q1⟩ := h.put 2 (.int .u32 m) ⟨d.n, d.R / 2, d.C⟩ (by simp; omega)
  have HP : Hid (Dcd (w0.setCell ⟨a, 2, none⟩ (.int .u32 m)) B a v bs ⟨d.n, d.R / 2, d.C⟩) := p1
  have HQ : Hid (Chg (fun z => z = a) w0 (w0.setCell ⟨a, 2, none⟩ (.int .u32 m))) := q1
  rw [← hr] at k2
  have x1 : decide (m ≤ c) = true := by simp; omega
  have x2 : m ≤ c := by omega
  have x3 : decide (m ≤ c - m) = false := by simp; omega
  have x4 : ¬ m ≤ c - m := by omega
  clear h1 h2
  clear p1 q1 h fz hr hc hm hR hC
  go_enter Try.func36, Try.ntmps36
  go_upto_region 3 with fail
  clear k2 f2
  generalize w0.setCell ⟨a, 2, none⟩ (.int .u32 m) = w1 at *
  have g2 : w1.cell? ⟨a, 2, none⟩ = some (.int .u32 m) := by have := (rcells4 HP.out.blk).2.2.1; rw [HM.out]; exact this
  have g3 : w1.cell? ⟨a, 3, none⟩ = some (.int .u32 c) := by have := (rcells4 HP.out.blk).2.2.2.1; rw [HC0.out]; exact this
  go_quiet (fail)
  rename_i nq
  go_upto_region 4 with fail
  have HP2 : Hid (Dcd (w1.drewN nq) B a v bs ⟨d.n, d.R / 2, d.C⟩) := HP.out.new (chg_drewN _ _)
  have HQ2 : Hid (Chg (fun z => z = a) w0 (w1.drewN nq)) := HQ.out.trans (chg_drewN _ _) (fun _ f => f.elim)
  have g2 : (w1.drewN nq).cell? ⟨a, 2, none⟩ = some (.int .u32 m) := cell_chg g2 (chg_drewN _ _)
  have g3 : (w1.drewN nq).cell? ⟨a, 3, none⟩ = some (.int .u32 c) := cell_chg g3 (chg_drewN _ _)
  generalize w1.drewN nq = w2 at *
  refine wp_region_phaseQ (mk := fun u => #[_, _, _, _, _, _, _, _, _, _, _, _, _, _, _, _, _, _, _, _, u 20, u 21, u 22, u 23, u 24, u 25, u 26, u 27, u 28, u 29, u 30, _, _, _, _, _, _, _, _, _, _, _]) (G := lookG [(20, .pointer (some ⟨a, 0, none⟩)), (21, .pointer (some ⟨a, 0, none⟩)), (22, .pointer (some ⟨a, 3, none⟩)), (23, .int .u32 c), (24, .pointer (some ⟨a, 0, none⟩)), (25, .pointer (some ⟨a, 0, none⟩)), (26, .pointer (some ⟨a, 2, none⟩)), (27, .int .u32 m), (28, .int .u32 (c - m)), (29, .pointer (some ⟨a, 0, none⟩)), (30, .pointer (some ⟨a, 3, none⟩))]) (J := fun _ _ w => Chg (fun _ => False) w2 w) [] (fun i =>  0) ([]) (fun _ => undef) rfl (by kernel_rfl) 11 _ rfl rfl (by kernel_rfl) (by kernel_rfl) (by kernel_rfl) (by decide) ?_ ?_ ?_ (by kernel_rfl) ?_ ?_
  · repeat (refine ⟨fun _ _ => rfl, ?_⟩)
    exact trivial
  · exact fun q u u2 w _ h => h
  · exact (Chg.refl _ _).drew
  · refine ⟨?_, ?_, ?_, ?_, ?_, ?_, ?_, ?_, ?_, ?_, ?_, trivial⟩
    · show StepRQ _ _ _ _ _ _ _ _ _ -- 20
      unfold StepRQ
      intro q hq u w hj hd K hK
      clear hd
      go_simp
      exact hK.out (.pointer (some ⟨a, 0, none⟩)) rfl
    · show StepRQ _ _ _ _ _ _ _ _ _ -- 21
      unfold StepRQ
      intro q hq u w hj hd K hK
      have h20 : u 20 = .pointer (some ⟨a, 0, none⟩) := hd.get 0 (by kernel_rfl)
      clear hd
      simp only [h20] at hK
      go_simp
      exact hK.out (.pointer (some ⟨a, 0, none⟩)) rfl
    · show StepRQ _ _ _ _ _ _ _ _ _ -- 22
      unfold StepRQ
      intro q hq u w hj hd K hK
      have h21 : u 21 = .pointer (some ⟨a, 0, none⟩) := hd.get 1 (by kernel_rfl)
      clear hd
      simp only [h21] at hK
      go_simp
      exact hK.out (.pointer (some ⟨a, 3, none⟩)) rfl
    · show StepRQ _ _ _ _ _ _ _ _ _ -- 23
      unfold StepRQ
      intro q hq u w hj hd K hK
      have h22 : u 22 = .pointer (some ⟨a, 3, none⟩) := hd.get 2 (by kernel_rfl)
      clear hd
      simp only [h22] at hK
      have hcell := cell_chg g3 hj
      go_simp
      exact hK.out _ rfl
    · show StepRQ _ _ _ _ _ _ _ _ _ -- 24
      unfold StepRQ
      intro q hq u w hj hd K hK
      clear hd
      go_simp
      exact hK.out (.pointer (some ⟨a, 0, none⟩)) rfl
    · show StepRQ _ _ _ _ _ _ _ _ _ -- 25
      unfold StepRQ
      intro q hq u w hj hd K hK
      have h24 : u 24 = .pointer (some ⟨a, 0, none⟩) := hd.get 4 (by kernel_rfl)
      clear hd
      simp only [h24] at hK
      go_simp
      exact hK.out (.pointer (some ⟨a, 0, none⟩)) rfl
    · show StepRQ _ _ _ _ _ _ _ _ _ -- 26
      unfold StepRQ
      intro q hq u w hj hd K hK
      have h25 : u 25 = .pointer (some ⟨a, 0, none⟩) := hd.get 5 (by kernel_rfl)
      clear hd
      simp only [h25] at hK
      go_simp
      exact hK.out (.pointer (some ⟨a, 2, none⟩)) rfl
    · show StepRQ _ _ _ _ _ _ _ _ _ -- 27
      unfold StepRQ
      intro q hq u w hj hd K hK
      have h26 : u 26 = .pointer (some ⟨a, 2, none⟩) := hd.get 6 (by kernel_rfl)
      clear hd
      simp only [h26] at hK
      have hcell := cell_chg g2 hj
      go_simp
      exact hK.out _ rfl
    · show StepRQ _ _ _ _ _ _ _ _ _ -- 28
      unfold StepRQ
      intro q hq u w hj hd K hK
      have h23 : u 23 = .int .u32 c := hd.get 3 (by kernel_rfl)
      have h27 : u 27 = .int .u32 m := hd.get 7 (by kernel_rfl)
      clear hd
      simp only [h23, h27] at hK
      go_simp
      first | exact hK.out (.int .u32 (c - m)) rfl | (rw [show IntKind.u32.wrap (c - m) = c - m by simp [IntKind.wrap, IntKind.signed, IntKind.bits]; omega]; exact hK.out (.int .u32 (c - m)) rfl)
    · show StepRQ _ _ _ _ _ _ _ _ _ -- 29
      unfold StepRQ
      intro q hq u w hj hd K hK
      have h20 : u 20 = .pointer (some ⟨a, 0, none⟩) := hd.get 0 (by kernel_rfl)
      clear hd
      simp only [h20] at hK
      go_simp
      exact hK.out (.pointer (some ⟨a, 0, none⟩)) rfl
    · show StepRQ _ _ _ _ _ _ _ _ _ -- 30
      unfold StepRQ
      intro q hq u w hj hd K hK
      have h29 : u 29 = .pointer (some ⟨a, 0, none⟩) := hd.get 9 (by kernel_rfl)
      clear hd
      simp only [h29] at hK
      go_simp
      exact hK.out (.pointer (some ⟨a, 3, none⟩)) rfl
  · intro u w hj hA K hK
    have e28 : u 28 = .int .u32 (c - m) := hA.at 28 (by kernel_rfl)
    have e30 : u 30 = .pointer (some ⟨a, 3, none⟩) := hA.at 30 (by kernel_rfl)
    clear hA
    have hD := HP2.out.new hj
    have fg3 := (rcells4 hD.blk).2.2.2.2 3
    have hg3 := (rcells4 hD.blk).2.2.2.1
    obtain ⟨hD2, hc2⟩ := hD.put 3 (.int .u32 (c - m)) ⟨d.n, d.R / 2, d.C - d.R / 2⟩ (by have := HM.out; have := HC0.out; simp; omega)
    have HD2 : Hid (Dcd (w.setCell ⟨a, 3, none⟩ (.int .u32 (c - m))) B a v bs ⟨d.n, d.R / 2, d.C - d.R / 2⟩) := hD2
    have HC2 : Hid (Chg (fun z => z = a) w0 (w.setCell ⟨a, 3, none⟩ (.int .u32 (c - m)))) := (HQ2.out.trans hj (fun _ f => f.elim)).trans hc2 (fun _ f => .inl f)
    clear hD hD2 hc2 HP2 HQ2 HP HQ g2 g3
    go_simp
    refine hK.out _ _ ?_
    generalize w.setCell ⟨a, 3, none⟩ (.int .u32 (c - m)) = w3 at *
    have q2 : w3.cell? ⟨a, 2, none⟩ = some (.int .u32 m) := by have := (rcells4 HD2.out.blk).2.2.1; rw [HM.out]; exact this
    have q3 : w3.cell? ⟨a, 3, none⟩ = some (.int .u32 (c - m)) := by have h9 := (rcells4 HD2.out.blk).2.2.2.1; rw [show c - m = ((d.C - d.R / 2 : Nat) : Int) by have := HM.out; have := HC0.out; omega]; exact h9
    go_upto_region 6 with fail
    go_quiet (fail)
    go_wp2
    go_ret
    exact ⟨rfl, HD2.out.new (chg_drewN _ _), HC2.out.trans (chg_drewN _ _) (fun _ f => f.elim)⟩

set_option maxHeartbeats 2000000 in
set_option maxRecDepth 100000 in
theorem dhalve_bad (B a : Nat) (v : Value) (bs : List Nat) (d : Rc.D) (w0 : World) (h : Dcd w0 B a v bs d) (hC : d.C < d.R) (hR : d.R ≤ 4294967295) (h1 : d.R / 2 ≤ d.C) (h2 : d.R / 2 ≤ d.C - d.R / 2) : Calls Try.prog 36 #[.pointer (some ⟨a, 0, none⟩)] w0 fun e w' => e = .panicked (gave 2) ∧ (∃ d', Dcd w' B a v bs d') ∧ Chg (fun z => z = a) w0 w' := by
  have HH : Hid (Dcd w0 B a v bs d) := h
  obtain ⟨_, _, k2, _, fz⟩ := rcells4 h.blk
  have f2 := fz 2
  obtain ⟨r, hr⟩ : ∃ r : Int, r = (d.R : Int) := ⟨_, rfl⟩
  obtain ⟨c, hc⟩ : ∃ c : Int, c = (d.C : Int) := ⟨_, rfl⟩
  obtain ⟨m, hm⟩ : ∃ m : Int, m = ((d.R / 2 : Nat) : Int) := ⟨_, rfl⟩
  have r0 : 0 ≤ r := by omega
  have c0 : 0 ≤ c := by omega
  have m0 : 0 ≤ m := by omega
  have c9 : c ≤ 4294967295 := by omega
  have hq : r / 2 = m := by omega
  have hm9 : m % 4294967296 = m := by omega
  have hq2 : r.tdiv 2 = m := by rw [Int.tdiv_eq_ediv_of_nonneg r0]; exact hq
  have HM : Hid (m = ((d.R / 2 : Nat) : Int)) := hm
  have HC0 : Hid (c = (d.C : Int)) := hc
  obtain ⟨p1, q1⟩ := h.put 2 (.int .u32 m) ⟨d.n, d.R / 2, d.C⟩ (by simp; omega)
  have HP : Hid (Dcd (w0.setCell ⟨a, 2, none⟩ (.int .u32 m)) B a v bs ⟨d.n, d.R / 2, d.C⟩) := p1
  have HQ : Hid (Chg (fun z => z = a) w0 (w0.setCell ⟨a, 2, none⟩ (.int .u32 m))) := q1
  rw [← hr] at k2
  have x1 : decide (m ≤ c) = true := by simp; omega
  have x2 : m ≤ c := by omega
  have x3 : decide (m ≤ c - m) = true := by simp; omega
  have x4 : m ≤ c - m := by omega
  clear h1 h2
  clear p1 q1 h fz hr hc hm hR hC
  go_enter Try.func36, Try.ntmps36
  go_upto_region 3 with fail
  clear k2 f2
  generalize w0.setCell ⟨a, 2, none⟩ (.int .u32 m) = w1 at *
  have g2 : w1.cell? ⟨a, 2, none⟩ = some (.int .u32 m) := by have := (rcells4 HP.out.blk).2.2.1; rw [HM.out]; exact this
  have g3 : w1.cell? ⟨a, 3, none⟩ = some (.int .u32 c) := by have := (rcells4 HP.out.blk).2.2.2.1; rw [HC0.out]; exact this
  go_quiet (fail)
  rename_i nq
  go_upto_region 4 with fail
  have HP2 : Hid (Dcd (w1.drewN nq) B a v bs ⟨d.n, d.R / 2, d.C⟩) := HP.out.new (chg_drewN _ _)
  have HQ2 : Hid (Chg (fun z => z = a) w0 (w1.drewN nq)) := HQ.out.trans (chg_drewN _ _) (fun _ f => f.elim)
  have g2 : (w1.drewN nq).cell? ⟨a, 2, none⟩ = some (.int .u32 m) := cell_chg g2 (chg_drewN _ _)
  have g3 : (w1.drewN nq).cell? ⟨a, 3, none⟩ = some (.int .u32 c) := cell_chg g3 (chg_drewN _ _)
  generalize w1.drewN nq = w2 at *
  refine wp_region_phaseQ (mk := fun u => #[_, _, _, _, _, _, _, _, _, _, _, _, _, _, _, _, _, _, _, _, u 20, u 21, u 22, u 23, u 24, u 25, u 26, u 27, u 28, u 29, u 30, _, _, _, _, _, _, _, _, _, _, _]) (G := lookG [(20, .pointer (some ⟨a, 0, none⟩)), (21, .pointer (some ⟨a, 0, none⟩)), (22, .pointer (some ⟨a, 3, none⟩)), (23, .int .u32 c), (24, .pointer (some ⟨a, 0, none⟩)), (25, .pointer (some ⟨a, 0, none⟩)), (26, .pointer (some ⟨a, 2, none⟩)), (27, .int .u32 m), (28, .int .u32 (c - m)), (29, .pointer (some ⟨a, 0, none⟩)), (30, .pointer (some ⟨a, 3, none⟩))]) (J := fun _ _ w => Chg (fun _ => False) w2 w) [] (fun i =>  0) ([]) (fun _ => undef) rfl (by kernel_rfl) 11 _ rfl rfl (by kernel_rfl) (by kernel_rfl) (by kernel_rfl) (by decide) ?_ ?_ ?_ (by kernel_rfl) ?_ ?_
  · repeat (refine ⟨fun _ _ => rfl, ?_⟩)
    exact trivial
  · exact fun q u u2 w _ h => h
  · exact (Chg.refl _ _).drew
  · refine ⟨?_, ?_, ?_, ?_, ?_, ?_, ?_, ?_, ?_, ?_, ?_, trivial⟩
    · show StepRQ _ _ _ _ _ _ _ _ _ -- 20
      unfold StepRQ
      intro q hq u w hj hd K hK
      clear hd
      go_simp
      exact hK.out (.pointer (some ⟨a, 0, none⟩)) rfl
    · show StepRQ _ _ _ _ _ _ _ _ _ -- 21
      unfold StepRQ
      intro q hq u w hj hd K hK
      have h20 : u 20 = .pointer (some ⟨a, 0, none⟩) := hd.get 0 (by kernel_rfl)
      clear hd
      simp only [h20] at hK
      go_simp
      exact hK.out (.pointer (some ⟨a, 0, none⟩)) rfl
    · show StepRQ _ _ _ _ _ _ _ _ _ -- 22
      unfold StepRQ
      intro q hq u w hj hd K hK
      have h21 : u 21 = .pointer (some ⟨a, 0, none⟩) := hd.get 1 (by kernel_rfl)
      clear hd
      simp only [h21] at hK
      go_simp
      exact hK.out (.pointer (some ⟨a, 3, none⟩)) rfl
    · show StepRQ _ _ _ _ _ _ _ _ _ -- 23
      unfold StepRQ
      intro q hq u w hj hd K hK
      have h22 : u 22 = .pointer (some ⟨a, 3, none⟩) := hd.get 2 (by kernel_rfl)
      clear hd
      simp only [h22] at hK
      have hcell := cell_chg g3 hj
      go_simp
      exact hK.out _ rfl
    · show StepRQ _ _ _ _ _ _ _ _ _ -- 24
      unfold StepRQ
      intro q hq u w hj hd K hK
      clear hd
      go_simp
      exact hK.out (.pointer (some ⟨a, 0, none⟩)) rfl
    · show StepRQ _ _ _ _ _ _ _ _ _ -- 25
      unfold StepRQ
      intro q hq u w hj hd K hK
      have h24 : u 24 = .pointer (some ⟨a, 0, none⟩) := hd.get 4 (by kernel_rfl)
      clear hd
      simp only [h24] at hK
      go_simp
      exact hK.out (.pointer (some ⟨a, 0, none⟩)) rfl
    · show StepRQ _ _ _ _ _ _ _ _ _ -- 26
      unfold StepRQ
      intro q hq u w hj hd K hK
      have h25 : u 25 = .pointer (some ⟨a, 0, none⟩) := hd.get 5 (by kernel_rfl)
      clear hd
      simp only [h25] at hK
      go_simp
      exact hK.out (.pointer (some ⟨a, 2, none⟩)) rfl
    · show StepRQ _ _ _ _ _ _ _ _ _ -- 27
      unfold StepRQ
      intro q hq u w hj hd K hK
      have h26 : u 26 = .pointer (some ⟨a, 2, none⟩) := hd.get 6 (by kernel_rfl)
      clear hd
      simp only [h26] at hK
      have hcell := cell_chg g2 hj
      go_simp
      exact hK.out _ rfl
    · show StepRQ _ _ _ _ _ _ _ _ _ -- 28
      unfold StepRQ
      intro q hq u w hj hd K hK
      have h23 : u 23 = .int .u32 c := hd.get 3 (by kernel_rfl)
      have h27 : u 27 = .int .u32 m := hd.get 7 (by kernel_rfl)
      clear hd
      simp only [h23, h27] at hK
      go_simp
      first | exact hK.out (.int .u32 (c - m)) rfl | (rw [show IntKind.u32.wrap (c - m) = c - m by simp [IntKind.wrap, IntKind.signed, IntKind.bits]; omega]; exact hK.out (.int .u32 (c - m)) rfl)
    · show StepRQ _ _ _ _ _ _ _ _ _ -- 29
      unfold StepRQ
      intro q hq u w hj hd K hK
      have h20 : u 20 = .pointer (some ⟨a, 0, none⟩) := hd.get 0 (by kernel_rfl)
      clear hd
      simp only [h20] at hK
      go_simp
      exact hK.out (.pointer (some ⟨a, 0, none⟩)) rfl
    · show StepRQ _ _ _ _ _ _ _ _ _ -- 30
      unfold StepRQ
      intro q hq u w hj hd K hK
      have h29 : u 29 = .pointer (some ⟨a, 0, none⟩) := hd.get 9 (by kernel_rfl)
      clear hd
      simp only [h29] at hK
      go_simp
      exact hK.out (.pointer (some ⟨a, 3, none⟩)) rfl
  · intro u w hj hA K hK
    have e28 : u 28 = .int .u32 (c - m) := hA.at 28 (by kernel_rfl)
    have e30 : u 30 = .pointer (some ⟨a, 3, none⟩) := hA.at 30 (by kernel_rfl)
    clear hA
    have hD := HP2.out.new hj
    have fg3 := (rcells4 hD.blk).2.2.2.2 3
    have hg3 := (rcells4 hD.blk).2.2.2.1
    obtain ⟨hD2, hc2⟩ := hD.put 3 (.int .u32 (c - m)) ⟨d.n, d.R / 2, d.C - d.R / 2⟩ (by have := HM.out; have := HC0.out; simp; omega)
    have HD2 : Hid (Dcd (w.setCell ⟨a, 3, none⟩ (.int .u32 (c - m))) B a v bs ⟨d.n, d.R / 2, d.C - d.R / 2⟩) := hD2
    have HC2 : Hid (Chg (fun z => z = a) w0 (w.setCell ⟨a, 3, none⟩ (.int .u32 (c - m)))) := (HQ2.out.trans hj (fun _ f => f.elim)).trans hc2 (fun _ f => .inl f)
    clear hD hD2 hc2 HP2 HQ2 HP HQ g2 g3
    go_simp
    refine hK.out _ _ ?_
    generalize w.setCell ⟨a, 3, none⟩ (.int .u32 (c - m)) = w3 at *
    have q2 : w3.cell? ⟨a, 2, none⟩ = some (.int .u32 m) := by have := (rcells4 HD2.out.blk).2.2.1; rw [HM.out]; exact this
    have q3 : w3.cell? ⟨a, 3, none⟩ = some (.int .u32 (c - m)) := by have h9 := (rcells4 HD2.out.blk).2.2.2.1; rw [show c - m = ((d.C - d.R / 2 : Nat) : Int) by have := HM.out; have := HC0.out; omega]; exact h9
    go_upto_region 6 with fail
    go_quiet (fail)
    go_wp2
    exact ⟨rfl, rfl, ⟨_, HD2.out.new (chg_drewN _ _)⟩, HC2.out.trans (chg_drewN _ _) (fun _ f => f.elim)⟩

theorem dhalve_any (B a : Nat) (v : Value) (bs : List Nat) (d : Rc.D) (w : World) (h : Dcd w B a v bs d) (hC : d.C < d.R) (hR : d.R ≤ 4294967295) : Calls Try.prog 36 #[.pointer (some ⟨a, 0, none⟩)] w fun e w' => (¬ (Rc.hpartD d).R ≤ (Rc.hpartD d).C ∧ e = .returned (.int .u32 (bt (decide (d.R / 2 ≤ d.C)))) ∧ Dcd w' B a v bs (Rc.hpartD d) ∧ Chg (fun z => z = a) w w') ∨ ((Rc.hpartD d).R ≤ (Rc.hpartD d).C ∧ e = .panicked (gave 2) ∧ (∃ d', Dcd w' B a v bs d') ∧ Chg (fun z => z = a) w w') := by
  by_cases h1 : d.R / 2 ≤ d.C
  · have e1 : Rc.hpartD d = ⟨d.n, d.R / 2, d.C - d.R / 2⟩ := by unfold Rc.hpartD; rw [if_pos h1]
    rw [e1, show decide (d.R / 2 ≤ d.C) = true from decide_eq_true h1]
    by_cases h2 : d.C - d.R / 2 < d.R / 2
    · exact (dhalve_hi B a v bs d w h hC hR h1 h2).mono fun x w' ⟨k1, k2, k3⟩ => .inl ⟨by show ¬ d.R / 2 ≤ d.C - d.R / 2; omega, k1, k2, k3⟩
    · exact (dhalve_bad B a v bs d w h hC hR h1 (by omega)).mono fun x w' ⟨k1, k2, k3⟩ => .inr ⟨by show d.R / 2 ≤ d.C - d.R / 2; omega, k1, k2, k3⟩
  · have e1 : Rc.hpartD d = ⟨d.n, d.R / 2, d.C⟩ := by unfold Rc.hpartD; rw [if_neg h1]
    rw [e1, show decide (d.R / 2 ≤ d.C) = false from decide_eq_false h1]
    exact (dhalve_lo B a v bs d w h hC hR (by omega)).mono fun x w' ⟨k1, k2, k3⟩ => .inl ⟨h1, k1, k2, k3⟩
end Go.Proofs.Ytejopgopcocapaa
