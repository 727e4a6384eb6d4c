/- The contracts of the program's decoder's widen and halve, which may give up; of no statement by themselves. -/
import Derived.Test.YtejopgopcocapaaDc
namespace Go.Proofs.Ytejopgopcocapaa
open Go.RowKit
set_option linter.unusedVariables false

theorem or8 (c x : Nat) (hc : c < 16777216) (hx : x < 256) : bits .or .u32 ((c : Int) * 256) (x : Int) = ((256 * c + x : Nat) : Int) := by
  have e0 : ((c : Int) * 256) = ((256 * c : Nat) : Int) := by omega
  rw [e0, u32_or_nat _ _ (by omega) (by omega)]
  have := Nat.two_pow_add_eq_or_of_lt (i := 8) (b := x) (by omega) c
  have e : 2 ^ 8 * c = 256 * c := by omega
  rw [e] at this
  rw [← this]
theorem or1 (c x : Nat) (hc : c < 2147483648) (hx : x < 2) : bits .or .u32 ((c : Int) * 2) (x : Int) = ((2 * c + x : Nat) : Int) := by
  have e0 : ((c : Int) * 2) = ((2 * c : Nat) : Int) := by omega
  rw [e0, u32_or_nat _ _ (by omega) (by omega)]
  have := Nat.two_pow_add_eq_or_of_lt (i := 1) (b := x) (by omega) c
  have e : 2 ^ 1 * c = 2 * c := by omega
  rw [e] at this
  rw [← this]

theorem dwiden_no (B a : Nat) (v : Value) (bs : List Nat) (d : Rc.D) (w : World) (h : Dcd w B a v bs d) (hR : 16777216 ≤ d.R) : Calls Try.prog 37 #[.pointer (some ⟨a, 0, none⟩)] w fun e w' => e = .returned (.tuple #[]) ∧ w = w' := by
  obtain ⟨_, _, k2, _, _⟩ := rcells4 h.blk
  obtain ⟨z, hz⟩ : ∃ z : Int, z = (d.R : Int) := ⟨_, rfl⟩
  have h1 : 16777216 ≤ z := by omega
  have h2 : decide (z < 16777216) = false := by simp; omega
  rw [← hz] at k2
  clear h hz hR
  go_enter Try.func37, Try.ntmps37
  go_wp2
  go_end0
  exact ⟨rfl, rfl⟩

set_option maxHeartbeats 2000000 in
set_option maxRecDepth 100000 in
theorem dwiden_yes (B a : Nat) (v : Value) (bs : List Nat) (d : Rc.D) (w0 : World) (h : Dcd w0 B a v bs d) (hR : d.R < 16777216) (hC : d.C < d.R) (hn : d.n < bs.length) (hl : bs.length ≤ 140737488355328) (hdig : Rc.Dig bs) : Calls Try.prog 37 #[.pointer (some ⟨a, 0, none⟩)] w0 fun e w' => e = .returned (.tuple #[]) ∧ Dcd w' B a v bs ⟨d.n + 1, 256 * d.R, 256 * d.C + bs.getD d.n 0⟩ ∧ Chg (fun z => z = a) w0 w' := by
  have HH : Hid (Dcd w0 B a v bs d) := h
  obtain ⟨_, _, k2, _, fz⟩ := rcells4 h.blk
  have f2 := fz 2
  obtain ⟨r, hr⟩ : ∃ r : Int, r = (d.R : Int) := ⟨_, rfl⟩
  have h1 : r < 16777216 := by omega
  have h2 : decide (r < 16777216) = true := by simp; omega
  have h3 : r * 256 % 4294967296 = r * 256 := by omega
  obtain ⟨p1, q1⟩ := h.put 2 (.int .u32 (r * 256)) ⟨d.n, 256 * d.R, d.C⟩ (by simp; omega)
  have HP : Hid (Dcd (w0.setCell ⟨a, 2, none⟩ (.int .u32 (r * 256))) B a v bs ⟨d.n, 256 * d.R, d.C⟩) := p1
  have HQ : Hid (Chg (fun z => z = a) w0 (w0.setCell ⟨a, 2, none⟩ (.int .u32 (r * 256)))) := q1
  rw [← hr] at k2
  obtain ⟨c, hc⟩ : ∃ c : Nat, c = d.C := ⟨_, rfl⟩
  have c1 : (c : Int) < 16777216 := by omega
  have c2 : (c : Int) * 256 % 4294967296 = (c : Int) * 256 := by omega
  have HC0 : Hid (c = d.C) := hc
  clear p1 q1 h fz hr hc
  obtain ⟨x, hx⟩ : ∃ x : Nat, x = bs.getD d.n 0 := ⟨_, rfl⟩
  have HX : Hid (bs.getD d.n 0 = x) := hx.symm
  have x1 : (x : Int) < 256 := by have := dig_at hdig d.n; omega
  have x2 : (x : Int) % 4294967296 = (x : Int) := by omega
  have HN : Hid (d.n < bs.length) := hn
  have HOR : Hid (bits .or .u32 ((c : Int) * 256) (x : Int) = ((256 * c + x : Nat) : Int)) := or8 c x (by omega) (by omega)
  rw [← hx, ← HC0.out]
  clear hx hn hR hC
  go_enter Try.func37, Try.ntmps37
  go_wp2_with fail
  refine wp_region_phaseQ (mk := fun u => #[_, _, _, _, _, _, _, _, _, _, _, _, _, _, u 14, u 15, u 16, u 17, u 18, u 19, u 20, u 21, u 22, u 23, u 24, u 25]) (G := lookG [(14, .pointer (some ⟨a, 0, none⟩)), (15, .pointer (some ⟨a, 0, none⟩)), (16, .pointer (some ⟨a, 0, none⟩)), (17, .pointer (some ⟨a, 3, none⟩)), (18, .int .u32 (c : Int)), (19, .int .u32 ((c : Int) * 256)), (20, .pointer (some ⟨a, 0, none⟩)), (21, .int .u8 (x : Int)), (22, .int .u32 (x : Int)), (23, .int .u32 ((256 * c + x : Nat) : Int)), (24, .pointer (some ⟨a, 0, none⟩)), (25, .pointer (some ⟨a, 3, none⟩))]) (J := fun q _ w => Dcd w B a v bs ⟨d.n + q, 256 * d.R, d.C⟩ ∧ Chg (fun z => z = a) w0 w) [7] (fun i =>  1) ([]) (fun _ => undef) rfl (by kernel_rfl) 12 _ rfl rfl (by kernel_rfl) (by kernel_rfl) (by kernel_rfl) (by decide) ?_ ?_ ?_ (by kernel_rfl) ?_ ?_
  · repeat (refine ⟨fun _ _ => rfl, ?_⟩)
    exact trivial
  · exact fun q u u2 w _ h => h
  · exact ⟨HP.out.new (Chg.refl _ _).drew, HQ.out.trans (Chg.refl (fun _ => False) _).drew (fun _ f => f.elim)⟩
  · refine ⟨?_, ?_, ?_, ?_, ?_, ?_, ?_, ?_, ?_, ?_, ?_, ?_, trivial⟩
    · show StepRQ _ _ _ _ _ _ _ _ _ -- 14
      unfold StepRQ
      intro q hq u w hj hd K hK
      clear hd
      go_simp
      exact hK.out (.pointer (some ⟨a, 0, none⟩)) rfl
    · show StepRQ _ _ _ _ _ _ _ _ _ -- 15
      unfold StepRQ
      intro q hq u w hj hd K hK
      clear hd
      go_simp
      exact hK.out (.pointer (some ⟨a, 0, none⟩)) rfl
    · show StepRQ _ _ _ _ _ _ _ _ _ -- 16
      unfold StepRQ
      intro q hq u w hj hd K hK
      have h15 : u 15 = .pointer (some ⟨a, 0, none⟩) := hd.get 1 (by kernel_rfl)
      clear hd
      simp only [h15] at hK
      go_simp
      exact hK.out (.pointer (some ⟨a, 0, none⟩)) rfl
    · show StepRQ _ _ _ _ _ _ _ _ _ -- 17
      unfold StepRQ
      intro q hq u w hj hd K hK
      have h16 : u 16 = .pointer (some ⟨a, 0, none⟩) := hd.get 2 (by kernel_rfl)
      clear hd
      simp only [h16] at hK
      go_simp
      exact hK.out (.pointer (some ⟨a, 3, none⟩)) rfl
    · show StepRQ _ _ _ _ _ _ _ _ _ -- 18
      unfold StepRQ
      intro q hq u w hj hd K hK
      have h17 : u 17 = .pointer (some ⟨a, 3, none⟩) := hd.get 3 (by kernel_rfl)
      clear hd
      simp only [h17] at hK
      have hcell : w.cell? ⟨a, 3, none⟩ = some (.int .u32 (c : Int)) := by rw [HC0.out]; exact (rcells4 hj.1.blk).2.2.2.1
      go_simp
      exact hK.out _ rfl
    · show StepRQ _ _ _ _ _ _ _ _ _ -- 19
      unfold StepRQ
      intro q hq u w hj hd K hK
      have h18 : u 18 = .int .u32 (c : Int) := hd.get 4 (by kernel_rfl)
      clear hd
      simp only [h18] at hK
      go_simp
      first | exact hK.out (.int .u32 ((c : Int) * 256)) rfl | (rw [show IntKind.u32.wrap ((c : Int) * 256) = (c : Int) * 256 by simp [IntKind.wrap, IntKind.signed, IntKind.bits]; omega]; exact hK.out (.int .u32 ((c : Int) * 256)) rfl)
    · show StepRQ _ _ _ _ _ _ _ _ _ -- 20
      unfold StepRQ
      intro q hq u w hj hd K hK
      clear hd
      go_simp
      exact hK.out (.pointer (some ⟨a, 0, none⟩)) rfl
    · show StepWQ _ _ _ _ _ _ _ _ _ -- 21
      unfold StepWQ
      intro u w hj hd K hK
      have h20 : u 20 = .pointer (some ⟨a, 0, none⟩) := hd.get 6 (by kernel_rfl)
      clear hd
      simp only [h20] at hK
      obtain ⟨hD, hc⟩ := hj
      go_simp
      go_at_call 51
      refine (dnext_some B a v bs ⟨d.n + 0, 256 * d.R, d.C⟩ w hD HN.out hl).mono ?_
      rintro x2 w2 ⟨rfl, hD2, hc2⟩
      exact hK.out _ w2 ⟨hD2, hc.trans hc2 (fun _ f => .inl f)⟩ (by show lookG _ _ (.int .u8 ((bs.getD d.n 0 : Nat) : Int)); rw [HX.out]; rfl)
    · show StepRQ _ _ _ _ _ _ _ _ _ -- 22
      unfold StepRQ
      intro q hq u w hj hd K hK
      have h21 : u 21 = .int .u8 (x : Int) := hd.get 7 (by kernel_rfl)
      clear hd
      simp only [h21] at hK
      go_simp
      first | exact hK.out (.int .u32 (x : Int)) rfl | (rw [show IntKind.u32.wrap (x : Int) = (x : Int) by simp [IntKind.wrap, IntKind.signed, IntKind.bits]; omega]; exact hK.out (.int .u32 (x : Int)) rfl)
    · show StepRQ _ _ _ _ _ _ _ _ _ -- 23
      unfold StepRQ
      intro q hq u w hj hd K hK
      have h19 : u 19 = .int .u32 ((c : Int) * 256) := hd.get 5 (by kernel_rfl)
      have h22 : u 22 = .int .u32 (x : Int) := hd.get 8 (by kernel_rfl)
      clear hd
      simp only [h19, h22] at hK
      go_simp
      rw [HOR.out]
      exact hK.out _ rfl
    · show StepRQ _ _ _ _ _ _ _ _ _ -- 24
      unfold StepRQ
      intro q hq u w hj hd K hK
      have h14 : u 14 = .pointer (some ⟨a, 0, none⟩) := hd.get 0 (by kernel_rfl)
      clear hd
      simp only [h14] at hK
      go_simp
      exact hK.out (.pointer (some ⟨a, 0, none⟩)) rfl
    · show StepRQ _ _ _ _ _ _ _ _ _ -- 25
      unfold StepRQ
      intro q hq u w hj hd K hK
      have h24 : u 24 = .pointer (some ⟨a, 0, none⟩) := hd.get 10 (by kernel_rfl)
      clear hd
      simp only [h24] at hK
      go_simp
      exact hK.out (.pointer (some ⟨a, 3, none⟩)) rfl
  · intro u w hj hA K hK
    have e23 : u 23 = .int .u32 ((256 * c + x : Nat) : Int) := hA.at 23 (by kernel_rfl)
    have e25 : u 25 = .pointer (some ⟨a, 3, none⟩) := hA.at 25 (by kernel_rfl)
    clear hA
    obtain ⟨hD, hc⟩ := hj
    have g3 := (rcells4 hD.blk).2.2.2.1
    have fg3 := (rcells4 hD.blk).2.2.2.2 3
    obtain ⟨hD2, hc2⟩ := hD.put 3 (.int .u32 ((256 * c + x : Nat) : Int)) ⟨d.n + 1, 256 * d.R, 256 * c + x⟩ rfl
    have HD2 : Hid (Dcd (w.setCell ⟨a, 3, none⟩ (.int .u32 ((256 * c + x : Nat) : Int))) B a v bs ⟨d.n + 1, 256 * d.R, 256 * c + x⟩) := hD2
    have HC2 : Hid (Chg (fun z => z = a) w0 (w.setCell ⟨a, 3, none⟩ (.int .u32 ((256 * c + x : Nat) : Int)))) := hc.trans hc2 (fun _ f => .inl f)
    clear hD hc hD2 hc2
    generalize ((256 * c + x : Nat) : Int) = y at *
    go_simp
    refine hK.out _ _ ?_
    go_wp2
    go_end0
    exact ⟨rfl, HD2.out, HC2.out⟩

set_option maxHeartbeats 2000000 in
set_option maxRecDepth 100000 in
theorem dwiden_dry (B a : Nat) (v : Value) (bs : List Nat) (d : Rc.D) (w0 : World) (h : Dcd w0 B a v bs d) (hR : d.R < 16777216) (hC : d.C < d.R) (hn : d.n = bs.length) : Calls Try.prog 37 #[.pointer (some ⟨a, 0, none⟩)] w0 fun e w' => e = .panicked (gave 1) ∧ (∃ d', Dcd w' B a v bs d') ∧ Chg (fun z => z = a) w0 w' := by
  have HH : Hid (Dcd w0 B a v bs d) := h
  obtain ⟨_, _, k2, _, fz⟩ := rcells4 h.blk
  have f2 := fz 2
  obtain ⟨r, hr⟩ : ∃ r : Int, r = (d.R : Int) := ⟨_, rfl⟩
  have h1 : r < 16777216 := by omega
  have h2 : decide (r < 16777216) = true := by simp; omega
  have h3 : r * 256 % 4294967296 = r * 256 := by omega
  obtain ⟨p1, q1⟩ := h.put 2 (.int .u32 (r * 256)) ⟨d.n, 256 * d.R, d.C⟩ (by simp; omega)
  have HP : Hid (Dcd (w0.setCell ⟨a, 2, none⟩ (.int .u32 (r * 256))) B a v bs ⟨d.n, 256 * d.R, d.C⟩) := p1
  have HQ : Hid (Chg (fun z => z = a) w0 (w0.setCell ⟨a, 2, none⟩ (.int .u32 (r * 256)))) := q1
  rw [← hr] at k2
  obtain ⟨c, hc⟩ : ∃ c : Nat, c = d.C := ⟨_, rfl⟩
  have c1 : (c : Int) < 16777216 := by omega
  have c2 : (c : Int) * 256 % 4294967296 = (c : Int) * 256 := by omega
  have HC0 : Hid (c = d.C) := hc
  clear p1 q1 h fz hr hc
  obtain ⟨x, hx⟩ : ∃ x : Nat, x = 0 := ⟨_, rfl⟩
  have x1 : (x : Int) < 256 := by omega
  have x2 : (x : Int) % 4294967296 = (x : Int) := by omega
  have HN : Hid (d.n = bs.length) := hn
  have HOR : Hid (bits .or .u32 ((c : Int) * 256) (x : Int) = ((256 * c + x : Nat) : Int)) := or8 c x (by omega) (by omega)
  clear hx hn hR hC
  go_enter Try.func37, Try.ntmps37
  go_wp2_with fail
  refine wp_region_phaseQ (mk := fun u => #[_, _, _, _, _, _, _, _, _, _, _, _, _, _, u 14, u 15, u 16, u 17, u 18, u 19, u 20, u 21, u 22, u 23, u 24, u 25]) (G := lookG [(14, .pointer (some ⟨a, 0, none⟩)), (15, .pointer (some ⟨a, 0, none⟩)), (16, .pointer (some ⟨a, 0, none⟩)), (17, .pointer (some ⟨a, 3, none⟩)), (18, .int .u32 (c : Int)), (19, .int .u32 ((c : Int) * 256)), (20, .pointer (some ⟨a, 0, none⟩)), (21, .int .u8 (x : Int)), (22, .int .u32 (x : Int)), (23, .int .u32 ((256 * c + x : Nat) : Int)), (24, .pointer (some ⟨a, 0, none⟩)), (25, .pointer (some ⟨a, 3, none⟩))]) (J := fun q _ w => q = 0 ∧ Dcd w B a v bs ⟨d.n, 256 * d.R, d.C⟩ ∧ Chg (fun z => z = a) w0 w) [7] (fun i =>  1) ([]) (fun _ => undef) rfl (by kernel_rfl) 12 _ rfl rfl (by kernel_rfl) (by kernel_rfl) (by kernel_rfl) (by decide) ?_ ?_ ?_ (by kernel_rfl) ?_ ?_
  · repeat (refine ⟨fun _ _ => rfl, ?_⟩)
    exact trivial
  · exact fun q u u2 w _ h => h
  · exact ⟨rfl, HP.out.new (Chg.refl _ _).drew, HQ.out.trans (Chg.refl (fun _ => False) _).drew (fun _ f => f.elim)⟩
  · refine ⟨?_, ?_, ?_, ?_, ?_, ?_, ?_, ?_, ?_, ?_, ?_, ?_, trivial⟩
    · show StepRQ _ _ _ _ _ _ _ _ _ -- 14
      unfold StepRQ
      intro q hq u w hj hd K hK
      clear hd
      go_simp
      exact hK.out (.pointer (some ⟨a, 0, none⟩)) rfl
    · show StepRQ _ _ _ _ _ _ _ _ _ -- 15
      unfold StepRQ
      intro q hq u w hj hd K hK
      clear hd
      go_simp
      exact hK.out (.pointer (some ⟨a, 0, none⟩)) rfl
    · show StepRQ _ _ _ _ _ _ _ _ _ -- 16
      unfold StepRQ
      intro q hq u w hj hd K hK
      have h15 : u 15 = .pointer (some ⟨a, 0, none⟩) := hd.get 1 (by kernel_rfl)
      clear hd
      simp only [h15] at hK
      go_simp
      exact hK.out (.pointer (some ⟨a, 0, none⟩)) rfl
    · show StepRQ _ _ _ _ _ _ _ _ _ -- 17
      unfold StepRQ
      intro q hq u w hj hd K hK
      have h16 : u 16 = .pointer (some ⟨a, 0, none⟩) := hd.get 2 (by kernel_rfl)
      clear hd
      simp only [h16] at hK
      go_simp
      exact hK.out (.pointer (some ⟨a, 3, none⟩)) rfl
    · show StepRQ _ _ _ _ _ _ _ _ _ -- 18
      unfold StepRQ
      intro q hq u w hj hd K hK
      have h17 : u 17 = .pointer (some ⟨a, 3, none⟩) := hd.get 3 (by kernel_rfl)
      clear hd
      simp only [h17] at hK
      have hcell : w.cell? ⟨a, 3, none⟩ = some (.int .u32 (c : Int)) := by rw [HC0.out]; exact (rcells4 hj.2.1.blk).2.2.2.1
      go_simp
      exact hK.out _ rfl
    · show StepRQ _ _ _ _ _ _ _ _ _ -- 19
      unfold StepRQ
      intro q hq u w hj hd K hK
      have h18 : u 18 = .int .u32 (c : Int) := hd.get 4 (by kernel_rfl)
      clear hd
      simp only [h18] at hK
      go_simp
      first | exact hK.out (.int .u32 ((c : Int) * 256)) rfl | (rw [show IntKind.u32.wrap ((c : Int) * 256) = (c : Int) * 256 by simp [IntKind.wrap, IntKind.signed, IntKind.bits]; omega]; exact hK.out (.int .u32 ((c : Int) * 256)) rfl)
    · show StepRQ _ _ _ _ _ _ _ _ _ -- 20
      unfold StepRQ
      intro q hq u w hj hd K hK
      clear hd
      go_simp
      exact hK.out (.pointer (some ⟨a, 0, none⟩)) rfl
    · show StepWQ _ _ _ _ _ _ _ _ _ -- 21
      unfold StepWQ
      intro u w hj hd K hK
      have h20 : u 20 = .pointer (some ⟨a, 0, none⟩) := hd.get 6 (by kernel_rfl)
      clear hd
      obtain ⟨_, hD, hc⟩ := hj
      go_simp
      go_at_call 51
      refine (dnext_dry B a v bs ⟨d.n, 256 * d.R, d.C⟩ w hD HN.out).mono ?_
      rintro x2 w2 ⟨rfl, hc2⟩
      exact ⟨rfl, rfl, ⟨_, hD.new hc2⟩, hc.trans hc2 (fun _ f => f.elim)⟩
    · show StepRQ _ _ _ _ _ _ _ _ _ -- 22
      unfold StepRQ
      intro q hq u w hj hd K hK
      have h21 : u 21 = .int .u8 (x : Int) := hd.get 7 (by kernel_rfl)
      clear hd
      simp only [h21] at hK
      go_simp
      first | exact hK.out (.int .u32 (x : Int)) rfl | (rw [show IntKind.u32.wrap (x : Int) = (x : Int) by simp [IntKind.wrap, IntKind.signed, IntKind.bits]; omega]; exact hK.out (.int .u32 (x : Int)) rfl)
    · show StepRQ _ _ _ _ _ _ _ _ _ -- 23
      unfold StepRQ
      intro q hq u w hj hd K hK
      have h19 : u 19 = .int .u32 ((c : Int) * 256) := hd.get 5 (by kernel_rfl)
      have h22 : u 22 = .int .u32 (x : Int) := hd.get 8 (by kernel_rfl)
      clear hd
      simp only [h19, h22] at hK
      go_simp
      rw [HOR.out]
      exact hK.out _ rfl
    · show StepRQ _ _ _ _ _ _ _ _ _ -- 24
      unfold StepRQ
      intro q hq u w hj hd K hK
      have h14 : u 14 = .pointer (some ⟨a, 0, none⟩) := hd.get 0 (by kernel_rfl)
      clear hd
      simp only [h14] at hK
      go_simp
      exact hK.out (.pointer (some ⟨a, 0, none⟩)) rfl
    · show StepRQ _ _ _ _ _ _ _ _ _ -- 25
      unfold StepRQ
      intro q hq u w hj hd K hK
      have h24 : u 24 = .pointer (some ⟨a, 0, none⟩) := hd.get 10 (by kernel_rfl)
      clear hd
      simp only [h24] at hK
      go_simp
      exact hK.out (.pointer (some ⟨a, 3, none⟩)) rfl
  · intro u w hj hA K hK
    exact absurd hj.1 (by decide)

theorem dwiden_any (B a : Nat) (v : Value) (bs : List Nat) (d : Rc.D) (w : World) (h : Dcd w B a v bs d) (hC : d.C < d.R) (hn : d.n ≤ bs.length) (hl : bs.length ≤ 140737488355328) (hdig : Rc.Dig bs) : Calls Try.prog 37 #[.pointer (some ⟨a, 0, none⟩)] w fun e w' => (∃ d', Rc.widenD bs d = some d' ∧ e = .returned (.tuple #[]) ∧ Dcd w' B a v bs d' ∧ Chg (fun z => z = a) w w') ∨ (Rc.widenD bs d = none ∧ e = .panicked (gave 1) ∧ (∃ d', Dcd w' B a v bs d') ∧ Chg (fun z => z = a) w w') := by
  by_cases hR : d.R < 16777216
  · by_cases hn2 : d.n < bs.length
    · have e : Rc.widenD bs d = some ⟨d.n + 1, 256 * d.R, 256 * d.C + bs.getD d.n 0⟩ := by unfold Rc.widenD; rw [if_pos hR, if_pos hn2]
      exact (dwiden_yes B a v bs d w h hR hC hn2 hl hdig).mono fun x w' ⟨h1, h2, h3⟩ => .inl ⟨_, e, h1, h2, h3⟩
    · have e : Rc.widenD bs d = none := by unfold Rc.widenD; rw [if_pos hR, if_neg hn2]
      exact (dwiden_dry B a v bs d w h hR hC (by omega)).mono fun x w' ⟨h1, h2, h3⟩ => .inr ⟨e, h1, h2, h3⟩
  · have e : Rc.widenD bs d = some d := by unfold Rc.widenD; rw [if_neg hR]
    exact (dwiden_no B a v bs d w h (by omega)).mono fun x w' ⟨h1, h2⟩ => .inl ⟨_, e, h1, by rw [← h2]; exact h, by rw [← h2]; exact Chg.refl _ _⟩
end Go.Proofs.Ytejopgopcocapaa
