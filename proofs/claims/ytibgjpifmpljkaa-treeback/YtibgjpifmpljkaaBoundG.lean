/- Several texts in one, none of a statement by itself: Dh, Di. -/
import Derived.Test.YtibgjpifmpljkaaDg
import Derived.Test.YtibgjpifmpljkaaBoundC
/- The contracts of the program's decoder's Direct, which catches what its steps give up with, and of refused questions; of no statement by themselves. -/
namespace Go.Proofs.Ytibgjpifmpljkaa
open Go.RowKit
set_option linter.unusedVariables false

theorem dirD_bad {bs : List Nat} {m v : Nat} {d : Rc.D} (h : (Rc.hpartD d).R ≤ (Rc.hpartD d).C) : dirD bs (m + 1) v d = .error 2 := by rw [dirD, if_pos h]
theorem dirD_dry {bs : List Nat} {m v : Nat} {d : Rc.D} (h : ¬ (Rc.hpartD d).R ≤ (Rc.hpartD d).C) (hw : Rc.widenD bs (Rc.hpartD d) = none) : dirD bs (m + 1) v d = .error 1 := by rw [dirD, if_neg h, hw]
theorem dirD_ok {bs : List Nat} {m v : Nat} {d d' : Rc.D} (h : ¬ (Rc.hpartD d).R ≤ (Rc.hpartD d).C) (hw : Rc.widenD bs (Rc.hpartD d) = some d') : dirD bs (m + 1) v d = dirD bs m (2 * v + if d.R / 2 ≤ d.C then 1 else 0) d' := by rw [dirD, if_neg h, hw]

set_option maxHeartbeats 1000000 in
set_option maxRecDepth 100000 in
theorem dbit_out (B' a s : Nat) (u' : Value) (xs : List Int) (i : Int) (w : World) (hS : St w B' s u' xs) (hi : i < 0 ∨ (xs.length : Int) ≤ i) : Calls Try.prog 54 #[.pointer (some ⟨a, 0, none⟩), .pointer (some ⟨s, 0, none⟩), .int .i64 i] w fun x w' => x = .returned (.tuple #[.int .i64 0, .int .i64 7]) ∧ Chg (fun _ => False) w w' := by
  obtain ⟨_, _, _, _, c1⟩ := three w #[.pointer (some ⟨a, 0, none⟩)] #[.int .i64 0] #[.int .i64 0] 51 3 24
  obtain ⟨g3, g6, g7, _, c2⟩ := three w #[.pointer (some ⟨a, 0, none⟩)] #[.int .i64 0] #[.int .i64 7] 51 3 24
  have x6 := cell00 g6
  have x7 := cell00 g7
  have f6 := fr00 g6
  have f7 := fr00 g7
  have HS1 : Hid _ := hS.new c1
  have HC : Hid _ := c2
  clear c1 c2 g3 g6 g7 hS
  go_enter_defers Try.func54, Try.ntmps54
  go_wp2_with fail
  refine (at_out B' s u' xs i _ HS1.out hi).mono ?_
  rintro x w1 ⟨rfl, rfl⟩
  clear HS1
  go_wp2_with fail
  go_region
  all_goals go_wp2
  all_goals exact ⟨_, by simp [results, Try.results54, go_sem, x6, x7], rfl, HC.out.drew⟩

set_option maxHeartbeats 1000000 in
set_option maxRecDepth 100000 in
theorem ddirect_out (a : Nat) (n : Int) (w : World) (hn : n < 0 ∨ 32 < n) : Calls Try.prog 56 #[.pointer (some ⟨a, 0, none⟩), .int .i64 n] w fun x w' => x = .returned (.tuple #[.int .u32 0, .int .i64 7]) ∧ Chg (fun _ => False) w w' := by
  obtain ⟨g3, g6, g7, _, c2⟩ := three w #[.pointer (some ⟨a, 0, none⟩)] #[.int .u32 0] #[.int .i64 7] 51 71 24
  have x6 := cell00 g6
  have x7 := cell00 g7
  have HC : Hid _ := c2
  clear c2 g3 g6 g7
  by_cases h0 : n < 0
  · have hd : decide (n < 0) = true := by simp; omega
    clear hn
    go_enter_defers Try.func56, Try.ntmps56
    go_wp2
    exact ⟨_, by simp [results, Try.results56, go_sem, x6, x7], rfl, HC.out⟩
  · have hd : decide (n < 0) = false := by simp; omega
    have hd2 : decide (32 < n) = true := by simp; omega
    have h2 : 32 < n := by omega
    clear hn
    go_enter_defers Try.func56, Try.ntmps56
    go_wp2
    exact ⟨_, by simp [results, Try.results56, go_sem, x6, x7], rfl, HC.out⟩

set_option maxHeartbeats 4000000 in
set_option maxRecDepth 100000 in
theorem ddirect_in (B a : Nat) (v : Value) (bs : List Nat) (d0 : Rc.D) (n : Nat) (w0 : World) (h : Dcd w0 B a v bs d0) (hO : OkD bs d0) (hdig : Rc.Dig bs) (hl : bs.length ≤ 140737488355328) (hn : n ≤ 32) : Calls Try.prog 56 #[.pointer (some ⟨a, 0, none⟩), .int .i64 (n : Int)] w0 fun x w' =>
    (∃ e : Nat, dirD bs n 0 d0 = .error e ∧ 0 < e ∧ x = .returned (.tuple #[.int .u32 0, .int .i64 (e : Int)]) ∧ Dcd w' B a v bs d0 ∧ Chg (fun z => z = a) w0 w')
    ∨ (∃ b d', dirD bs n 0 d0 = .ok (b, d') ∧ x = .returned (.tuple #[.int .u32 (b : Int), .int .i64 0]) ∧ Dcd w' B a v bs d' ∧ Chg (fun z => z = a) w0 w') := by
  have hmf : ∀ (fn : Fn) (first cap : Array Value) (w : World), (Instr.makeFunc fn first cap).run Try.prog w = .ok (.func fn first cap) w := fun _ _ _ _ => rfl
  have HL : Hid (bs.length ≤ 140737488355328) := hl
  have HD : Hid (Dcd w0 B a v bs d0) := h
  have HO0 : Hid (OkD bs d0) := hO
  have ha := h.lt
  obtain ⟨g3, g6, g7, gs, gc⟩ := three w0 #[.pointer (some ⟨a, 0, none⟩)] #[.int .u32 0] #[.int .i64 0] 51 71 24
  have HG : Hid _ := aside_made (kd := 71) (r0 := .int .u32 0) (e0 := 0) (y0 := v) (y1 := .int .i64 (d0.n : Int)) (y2 := .int .u32 (d0.R : Int)) (y3 := .int .u32 (d0.C : Int)) ha g3 g6 g7 gs
  have HGC : Hid _ := gc
  have HGS : Hid _ := gs
  have x3 := cell00 g3
  have hh1 := h.new gc
  obtain ⟨k0, k1, k2, k3, _⟩ := rcells4 hh1.blk
  obtain ⟨ad, cap, hv, _⟩ := own_any h.own
  have n0 : decide ((n : Int) < 0) = false := by simp
  have n1 : decide (32 < (n : Int)) = false := by simp; omega
  have n2 : ¬ (32 < (n : Int)) := by omega
  have n3 : ¬ ((n : Int) < 0) := by omega
  subst hv
  clear hO hl g3 g6 g7 gs gc hh1 ha h
  go_enter_defers Try.func56, Try.ntmps56
  go_upto_region 3 with fail
  generalize ((w0.alloc (.cells #[.pointer (some ⟨a, 0, none⟩)] 51)).alloc (.cells #[.int .u32 0] 71)).alloc (.cells #[.int .i64 0] 24) = w1 at *
  go_upto_region 5 with fail
  have HC5 : Hid (Chg (fun _ => False) w0 (w1.alloc (.cells #[.slice ad bs.length cap, .int .i64 (d0.n : Int), .int .u32 (d0.R : Int), .int .u32 (d0.C : Int)] 91))) := chg_then HGC.out (chg_one _ _)
  have HD5 : Hid (Dcd _ B a (.slice ad bs.length cap) bs d0) := HD.out.new HC5.out
  have HPS : Hid (w0.heap.size ≤ w1.heap.size ∧ w0.heap.size ≤ w0.heap.size + 1 ∧ w0.heap.size ≤ w0.heap.size + 1 + 1) := ⟨by rw [HGS.out]; omega, by omega, by omega⟩
  clear k0 k1 k2 k3 x3 HGS HGC HD
  have HA0 : Hid (Aside _ 71 (.int .u32 0) a _ _ _ _ _ _ _ _ 0) := HG.out
  clear HG
  generalize w1.alloc (.cells #[.slice ad bs.length cap, .int .i64 (d0.n : Int), .int .u32 (d0.R : Int), .int .u32 (d0.C : Int)] 91) = w5 at *
  generalize w1.heap.size = p9 at *
  generalize w0.heap.size + 1 + 1 = p7 at *
  generalize w0.heap.size + 1 = p6 at *
  obtain ⟨p3, hp3⟩ : ∃ p3, w0.heap.size = p3 := ⟨_, rfl⟩
  rw [hp3] at HA0 ⊢
  obtain ⟨v, hv⟩ : ∃ v, Value.slice ad bs.length cap = v := ⟨_, rfl⟩
  rw [hv] at HA0 HD5 ⊢
  have HV : Hid (Value.slice ad bs.length cap = v) := hv
  clear hv hp3
  go_wp2_with fail
  go_loopw [18] (fun iv wr => ∃ (k acc : Nat) (d : Rc.D), k ≤ n ∧ iv = .int .i64 (k : Int) ∧ acc < 2 ^ k ∧ Hid (OkD bs d) ∧ Hid (Dcd wr B a v bs d) ∧ Hid (Aside wr 71 (.int .u32 (acc : Int)) a p9 p3 p6 p7 v (.int .i64 (d0.n : Int)) (.int .u32 (d0.R : Int)) (.int .u32 (d0.C : Int)) 0) ∧ Hid (dirD bs n 0 d0 = dirD bs (n - k) acc d) ∧ Hid (Chg (fun z => z = a) w0 wr)) (fun iv _ => n - (intOf iv).toNat)
  case atStart => exact ⟨0, 0, d0, Nat.zero_le _, rfl, by simp, HO0.out, HD5.out, HA0.out, rfl, HC5.out.mono (fun _ f => f.elim)⟩
  case round =>
    clear HA0 HD5 HC5 HO0
    obtain ⟨k, acc, d, hk, rfl, hacc, HO, HDD, HA, HE, HCH⟩ := hrel
    by_cases hlt : k < n
    · have hp31 : 2 ^ k ≤ 2 ^ 31 := Nat.pow_le_pow_right (by omega) (by omega)
      have ac1 : (acc : Int) < 2147483648 := by omega
      have hlt2 : (k : Int) < (n : Int) := by omega
      have hd1 : decide ((k : Int) < (n : Int)) = true := by simp; omega
      obtain ⟨one, hone⟩ : ∃ one, one = decide (d.R / 2 ≤ d.C) := ⟨_, rfl⟩
      have HONE : Hid (decide (d.R / 2 ≤ d.C) = one) := hone.symm
      have hb1 : (bt one).toNat < 2 := by cases one <;> decide
      have HOR : Hid (bits .or .u32 ((acc : Int) * 2) (bt one) = ((2 * acc + (bt one).toNat : Nat) : Int)) := by
        have h9 := or1 acc (bt one).toNat (by omega) hb1
        have h8 : (((bt one).toNat : Nat) : Int) = bt one := by cases one <;> rfl
        rw [h8] at h9
        exact h9
      have HKN : Hid (n - k = (n - (k + 1)) + 1) := by show _ = _; omega
      by_cases hbad : (Rc.hpartD d).R ≤ (Rc.hpartD d).C
      · have HBAD : Hid ((Rc.hpartD d).R ≤ (Rc.hpartD d).C) := hbad
        have HERR : Hid (dirD bs n 0 d0 = .error 2) := by show _ = _; rw [HE.out, HKN.out, dirD_bad hbad]
        clear hbad hone hacc hp31
        go_wp2_with fail
        refine wp_region_phaseQ (mk := fun u => #[_, _, _, _, _, _, _, _, _, _, _, _, _, _, _, _, _, _, _, _, u 20, u 21, u 22, u 23, u 24, _, _, _, _]) (G := lookG [(20, .int .u32 (acc : Int)), (21, .int .u32 ((acc : Int) * 2)), (22, .pointer (some ⟨a, 0, none⟩)), (23, .int .u32 (bt one)), (24, .int .u32 ((2 * acc + (bt one).toNat : Nat) : Int))]) (J := fun q _ w => q = 0 ∧ Dcd w B a v bs (if q = 0 then d else Rc.hpartD d) ∧ Chg (fun z => z = a) wr w) [3] (fun i =>  1) ([{ target := Target.fn (Fn.func 78) #[.pointer (some ⟨p9, 0, none⟩), .pointer (some ⟨p3, 0, none⟩), .pointer (some ⟨p6, 0, none⟩), .pointer (some ⟨p7, 0, none⟩)], args := #[] }]) (fun slot => match slot with | 20 => u20 | 21 => u21 | 22 => u22 | 23 => u23 | 24 => u24 | _ => undef) rfl (by kernel_rfl) 5 _ rfl rfl (by kernel_rfl) (by kernel_rfl) (by kernel_rfl) (by decide) ?_ ?_ ?_ (by kernel_rfl) ?_ ?_
        · repeat (refine ⟨fun _ _ => rfl, ?_⟩)
          exact trivial
        · exact fun q u u2 w _ h => h
        · exact ⟨rfl, HDD.out.new (Chg.refl _ _).drew, (Chg.refl _ _).drew⟩
        · refine ⟨?_, ?_, ?_, ?_, ?_, trivial⟩
          · show StepRQ _ _ _ _ _ _ _ _ _ -- 20
            unfold StepRQ
            intro q hq u w hj hd K hK
            clear hd
            have hcell := cell00 (HA.out.deed hj.2.2).val
            go_simp
            exact hK.out _ rfl
          · show StepRQ _ _ _ _ _ _ _ _ _ -- 21
            unfold StepRQ
            intro q hq u w hj hd K hK
            have h20 : u 20 = .int .u32 (acc : Int) := hd.get 0 (by kernel_rfl)
            clear hd
            simp only [h20] at hK
            go_simp
            first | exact hK.out (.int .u32 ((acc : Int) * 2)) rfl | (rw [show IntKind.u32.wrap ((acc : Int) * 2) = (acc : Int) * 2 by simp [IntKind.wrap, IntKind.signed, IntKind.bits]; omega]; exact hK.out (.int .u32 ((acc : Int) * 2)) rfl)
          · show StepRQ _ _ _ _ _ _ _ _ _ -- 22
            unfold StepRQ
            intro q hq u w hj hd K hK
            clear hd
            have hcell := cell00 (HA.out.deed hj.2.2).at_
            go_simp
            exact hK.out _ rfl
          · show StepWQ _ _ _ _ _ _ _ _ _ -- 23
            unfold StepWQ
            intro u w hj hd K hK
            have h22 : u 22 = .pointer (some ⟨a, 0, none⟩) := hd.get 2 (by kernel_rfl)
            clear hd
            obtain ⟨_, hD, hc⟩ := hj
            go_simp
            go_at_call 79
            refine (dhalve_any B a v bs d w hD HO.out.lt HO.out.hi).mono ?_
            rintro x w8 (⟨hg, _⟩ | ⟨hg, rfl, ⟨d8, hD8⟩, hc8⟩)
            · exact absurd HBAD.out hg
            have HA8 : Hid _ := (HA.out.deed hc).deed hc8
            have HC8 : Hid (Chg (fun z => z = a) w0 w8) := (HCH.out.trans hc (fun z f => .inl f)).trans hc8 (fun z f => .inl f)
            refine leaves_cons (f := 78) (args := #[.pointer (some ⟨p9, 0, none⟩), .pointer (some ⟨p3, 0, none⟩), .pointer (some ⟨p6, 0, none⟩), .pointer (some ⟨p7, 0, none⟩)]) (by simp [gave]) (by simp [go_sem]) ?_
            have hA8 := HA8.out
            rw [← HV.out] at hA8
            refine (dcatch_gave a p9 p3 p6 p7 _ _ _ _ _ ad bs.length cap (d0.n : Int) (d0.R : Int) (d0.C : Int) 0 2 _ hA8 hD8.blk).mono ?_
            rintro e u2 w11 ⟨rfl, rfl, hA11, hb11, hc11⟩
            have c6 := cell00 hA11.val
            have c7 := cell00 hA11.err
            rw [HV.out] at hb11
            have m9 := HA8.out.own hD8.own (by decide) (by decide) (by decide) (by decide)
            have hD11 : Dcd w11 B a v bs d0 := ⟨hD8.hr, hb11, ownsRow_keep hD8.own hc11 (fun g e f => by
              rcases f with f | f | f
              · exact hD8.ne (by rw [← f]; exact e)
              · exact m9.2.2.1 (by rw [← f]; exact e)
              · exact m9.2.2.2 (by rw [← f]; exact e))⟩
            refine ⟨.tuple #[.int .u32 0, .int .i64 2], ?_, .inl ⟨2, HERR.out, by decide, rfl, by rw [HV.out]; exact hD11, HC8.out.trans hc11 (fun z f => ?_)⟩⟩
            · simp [results, Try.results56, go_sem, c6, c7]
            · rcases f with f | f | f
              · exact .inl f
              · exact .inr (by rw [f]; exact HPS.out.2.1)
              · exact .inr (by rw [f]; exact HPS.out.2.2)
          · show StepRQ _ _ _ _ _ _ _ _ _ -- 24
            unfold StepRQ
            intro q hq u w hj hd K hK
            have h21 : u 21 = .int .u32 ((acc : Int) * 2) := hd.get 1 (by kernel_rfl)
            have h23 : u 23 = .int .u32 (bt one) := hd.get 3 (by kernel_rfl)
            clear hd
            simp only [h21, h23] at hK
            go_simp
            rw [HOR.out]
            exact hK.out _ rfl
        · intro u w hj hA K hK
          exact absurd hj.1 (by decide)
      · have HGOOD : Hid (¬ (Rc.hpartD d).R ≤ (Rc.hpartD d).C) := hbad
        have hpR : (Rc.hpartD d).R = d.R / 2 := by unfold Rc.hpartD; split <;> rfl
        have hpn : (Rc.hpartD d).n = d.n := by unfold Rc.hpartD; split <;> rfl
        have HAC : Hid (2 * acc + (bt one).toNat < 2 ^ (k + 1)) := by show _ < _; rw [Nat.pow_succ]; omega
        have HBT : Hid ((bt one).toNat = if d.R / 2 ≤ d.C then 1 else 0) := by show _ = _; rw [hone]; by_cases h9 : d.R / 2 ≤ d.C <;> simp [h9, bt]
        clear hbad hone hacc hp31
        go_wp2_with fail
        refine wp_region_phaseQ (mk := fun u => #[_, _, _, _, _, _, _, _, _, _, _, _, _, _, _, _, _, _, _, _, u 20, u 21, u 22, u 23, u 24, _, _, _, _]) (G := lookG [(20, .int .u32 (acc : Int)), (21, .int .u32 ((acc : Int) * 2)), (22, .pointer (some ⟨a, 0, none⟩)), (23, .int .u32 (bt one)), (24, .int .u32 ((2 * acc + (bt one).toNat : Nat) : Int))]) (J := fun q _ w => Dcd w B a v bs (if q = 0 then d else Rc.hpartD d) ∧ Chg (fun z => z = a) wr w) [3] (fun i =>  1) ([{ target := Target.fn (Fn.func 78) #[.pointer (some ⟨p9, 0, none⟩), .pointer (some ⟨p3, 0, none⟩), .pointer (some ⟨p6, 0, none⟩), .pointer (some ⟨p7, 0, none⟩)], args := #[] }]) (fun slot => match slot with | 20 => u20 | 21 => u21 | 22 => u22 | 23 => u23 | 24 => u24 | _ => undef) rfl (by kernel_rfl) 5 _ rfl rfl (by kernel_rfl) (by kernel_rfl) (by kernel_rfl) (by decide) ?_ ?_ ?_ (by kernel_rfl) ?_ ?_
        · repeat (refine ⟨fun _ _ => rfl, ?_⟩)
          exact trivial
        · exact fun q u u2 w _ h => h
        · exact ⟨HDD.out.new (Chg.refl _ _).drew, (Chg.refl _ _).drew⟩
        · refine ⟨?_, ?_, ?_, ?_, ?_, trivial⟩
          · show StepRQ _ _ _ _ _ _ _ _ _ -- 20
            unfold StepRQ
            intro q hq u w hj hd K hK
            clear hd
            have hcell := cell00 (HA.out.deed hj.2).val
            go_simp
            exact hK.out _ rfl
          · show StepRQ _ _ _ _ _ _ _ _ _ -- 21
            unfold StepRQ
            intro q hq u w hj hd K hK
            have h20 : u 20 = .int .u32 (acc : Int) := hd.get 0 (by kernel_rfl)
            clear hd
            simp only [h20] at hK
            go_simp
            first | exact hK.out (.int .u32 ((acc : Int) * 2)) rfl | (rw [show IntKind.u32.wrap ((acc : Int) * 2) = (acc : Int) * 2 by simp [IntKind.wrap, IntKind.signed, IntKind.bits]; omega]; exact hK.out (.int .u32 ((acc : Int) * 2)) rfl)
          · show StepRQ _ _ _ _ _ _ _ _ _ -- 22
            unfold StepRQ
            intro q hq u w hj hd K hK
            clear hd
            have hcell := cell00 (HA.out.deed hj.2).at_
            go_simp
            exact hK.out _ rfl
          · show StepWQ _ _ _ _ _ _ _ _ _ -- 23
            unfold StepWQ
            intro u w hj hd K hK
            have h22 : u 22 = .pointer (some ⟨a, 0, none⟩) := hd.get 2 (by kernel_rfl)
            clear hd
            simp only [h22] at hK
            obtain ⟨hD, hc⟩ := hj
            go_simp
            go_at_call 79
            refine (dhalve_any B a v bs d w hD HO.out.lt HO.out.hi).mono ?_
            rintro x w2 (⟨hg, rfl, hD2, hc2⟩ | ⟨hg, _⟩)
            · exact hK.out _ w2 ⟨hD2, hc.trans hc2 (fun _ f => .inl f)⟩ (by rw [HONE.out]; rfl)
            · exact absurd hg HGOOD.out
          · show StepRQ _ _ _ _ _ _ _ _ _ -- 24
            unfold StepRQ
            intro q hq u w hj hd K hK
            have h21 : u 21 = .int .u32 ((acc : Int) * 2) := hd.get 1 (by kernel_rfl)
            have h23 : u 23 = .int .u32 (bt one) := hd.get 3 (by kernel_rfl)
            clear hd
            simp only [h21, h23] at hK
            go_simp
            rw [HOR.out]
            exact hK.out _ rfl
        · intro u w hj hA K hK
          have e24 : u 24 = .int .u32 ((2 * acc + (bt one).toNat : Nat) : Int) := hA.at 24 (by kernel_rfl)
          clear hA
          obtain ⟨hD6, hc6⟩ := hj
          obtain ⟨ac2, hac2⟩ : ∃ ac2, ac2 = 2 * acc + (bt one).toNat := ⟨_, rfl⟩
          rw [← hac2] at e24
          have HAC2 : Hid (ac2 = 2 * acc + (bt one).toNat) := hac2
          have hA6 := HA.out.deed hc6
          have hcell := cell00 hA6.val
          have hfr := fr00 hA6.val
          obtain ⟨hA7, hc7⟩ := hA6.setV (.int .u32 (ac2 : Int))
          have n7 := hA6.own hD6.own (by decide) (by decide) (by decide) (by decide)
          have HA7 : Hid _ := hA7
          have HD7 : Hid (Dcd (w.setCell ⟨p6, 0, none⟩ (.int .u32 (ac2 : Int))) B a v bs (Rc.hpartD d)) := hD6.keep hc7 (fun f => hA6.n6.1 f.symm) (fun g e f => n7.2.2.1 (by rw [← f]; exact e))
          have HC7 : Hid (Chg (fun z => z = a) w0 (w.setCell ⟨p6, 0, none⟩ (.int .u32 (ac2 : Int)))) := (HCH.out.trans hc6 (fun _ f => .inl f)).trans hc7 (fun _ f => .inr (by rw [f]; exact HPS.out.2.1))
          clear hA6 hA7 hc7 hD6 hc6 n7 hac2
          go_simp
          refine hK.out _ _ ?_
          generalize w.setCell ⟨p6, 0, none⟩ (.int .u32 (ac2 : Int)) = w7 at *
          have c3 := cell00 HA7.out.at_
          go_wp2_with fail
          refine (dwiden_any B a v bs (Rc.hpartD d) _ HD7.out (by have := HGOOD.out; omega) (by have := HO.out.n; omega) HL.out hdig).mono ?_
          rintro x w8 (⟨d', hw, rfl, hD8, hc8⟩ | ⟨hw, rfl, ⟨d', hD8⟩, hc8⟩)
          · have HDN : Hid (Dcd w8 B a v bs d') := hD8
            have HA8 : Hid _ := HA7.out.deed hc8
            have HC8 : Hid (Chg (fun z => z = a) w0 w8) := HC7.out.trans hc8 (fun z f => .inl f)
            have HON : Hid (OkD bs d') := okd_half hdig HO.out HGOOD.out hw
            have HEN : Hid (dirD bs n 0 d0 = dirD bs (n - (k + 1)) ac2 d') := by show _ = _; rw [HE.out, HKN.out, dirD_ok HGOOD.out hw, HAC2.out, HBT.out]
            clear hw hD8 hc8 c3
            go_wp2_with fail
            refine ⟨⟨_, _, _, _, _, _, _, _, _, _, ⟨k + 1, ac2, d', by omega, by go_num, by rw [HAC2.out]; exact HAC.out, HON.out, HDN.out, HA8.out, HEN.out, HC8.out⟩, rfl⟩, ?_⟩
            simp [intOf]
            omega
          · have HERR : Hid (dirD bs n 0 d0 = .error 1) := by show _ = _; rw [HE.out, HKN.out, dirD_dry HGOOD.out hw]
            have HA8 : Hid _ := HA7.out.deed hc8
            have HC8 : Hid (Chg (fun z => z = a) w0 w8) := HC7.out.trans hc8 (fun z f => .inl f)
            refine leaves_cons (f := 78) (args := #[.pointer (some ⟨p9, 0, none⟩), .pointer (some ⟨p3, 0, none⟩), .pointer (some ⟨p6, 0, none⟩), .pointer (some ⟨p7, 0, none⟩)]) (by simp [gave]) (by simp [go_sem]) ?_
            have hA8 := HA8.out
            rw [← HV.out] at hA8
            refine (dcatch_gave a p9 p3 p6 p7 _ _ _ _ _ ad bs.length cap (d0.n : Int) (d0.R : Int) (d0.C : Int) 0 1 _ hA8 hD8.blk).mono ?_
            rintro e u2 w11 ⟨rfl, rfl, hA11, hb11, hc11⟩
            have c6 := cell00 hA11.val
            have c7 := cell00 hA11.err
            rw [HV.out] at hb11
            have m9 := HA8.out.own hD8.own (by decide) (by decide) (by decide) (by decide)
            have hD11 : Dcd w11 B a v bs d0 := ⟨hD8.hr, hb11, ownsRow_keep hD8.own hc11 (fun g e f => by
              rcases f with f | f | f
              · exact hD8.ne (by rw [← f]; exact e)
              · exact m9.2.2.1 (by rw [← f]; exact e)
              · exact m9.2.2.2 (by rw [← f]; exact e))⟩
            refine ⟨.tuple #[.int .u32 0, .int .i64 1], ?_, .inl ⟨1, HERR.out, by decide, rfl, by rw [HV.out]; exact hD11, HC8.out.trans hc11 (fun z f => ?_)⟩⟩
            · simp [results, Try.results56, go_sem, c6, c7]
            · rcases f with f | f | f
              · exact .inl f
              · exact .inr (by rw [f]; exact HPS.out.2.1)
              · exact .inr (by rw [f]; exact HPS.out.2.2)
    · obtain rfl : k = n := by omega
      have hd1 : decide ((k : Int) < (k : Int)) = false := by simp
      have HER : Hid (dirD bs k 0 d0 = .ok (acc, d)) := by show _ = _; rw [HE.out, Nat.sub_self]; rfl
      have hcell := cell00 HA.out.val
      have hfr := fr00 HA.out.val
      obtain ⟨hA7, hc7⟩ := HA.out.setV (.int .u32 (acc : Int))
      have e7 := cell00 hA7.err
      have f7 := fr00 hA7.err
      obtain ⟨hA8, hc8⟩ := hA7.setE 0
      have n7 := HA.out.own HDD.out.own (by decide) (by decide) (by decide) (by decide)
      have hD7 := HDD.out.keep hc7 (fun f => HA.out.n6.1 f.symm) (fun g e f => n7.2.2.1 (by rw [← f]; exact e))
      have HD8 : Hid (Dcd _ B a v bs d) := hD7.keep hc8 (fun f => HA.out.n7 f.symm) (fun g e f => n7.2.2.2 (by rw [← f]; exact e))
      have HC8 : Hid (Chg (fun z => z = a) w0 _) := (HCH.out.trans hc7 (fun _ f => .inr (by rw [f]; exact HPS.out.2.1))).trans hc8 (fun _ f => .inr (by rw [f]; exact HPS.out.2.2))
      have c6 := cell00 hA8.val
      have c7 := cell00 hA8.err
      clear hA7 hc7 hA8 hc8 n7 hD7
      go_wp2
      refine leaves_cons (f := 78) (args := #[.pointer (some ⟨p9, 0, none⟩), .pointer (some ⟨p3, 0, none⟩), .pointer (some ⟨p6, 0, none⟩), .pointer (some ⟨p7, 0, none⟩)]) (by simp) (by simp [go_sem]) ?_
      refine (dcatch_idle _ _ _ _ _).mono ?_
      rintro e u2 w11 ⟨rfl, rfl, rfl⟩
      refine ⟨.tuple #[.int .u32 (acc : Int), .int .i64 0], ?_, .inr ⟨acc, d, HER.out, rfl, by rw [HV.out]; exact HD8.out, HC8.out⟩⟩
      simp [results, Try.results56, go_sem, c6, c7]
end Go.Proofs.Ytibgjpifmpljkaa

/- The contract of the program's New; and all that is asked of its decoder, together; of no statement by themselves. -/
namespace Go.Proofs.Ytibgjpifmpljkaa
open Go.RowKit
set_option linter.unusedVariables false

theorem or_lt32 {a b : Nat} (ha : a < 4294967296) (hb : b < 4294967296) : a ||| b < 4294967296 := Nat.or_lt_two_pow (n := 32) ha hb
theorem or_four (a b c d : Nat) (hb : b < 256) (hc : c < 256) (hd : d < 256) : ((a * 16777216 ||| b * 65536) ||| c * 256) ||| d = ((a * 256 + b) * 256 + c) * 256 + d := by
  have h1 : a * 16777216 ||| b * 65536 = a * 16777216 + b * 65536 := by
    have := Nat.two_pow_add_eq_or_of_lt (i := 24) (b := b * 65536) (by omega) a
    rw [Nat.mul_comm a]; exact this.symm
  have h2 : (a * 16777216 + b * 65536) ||| c * 256 = (a * 16777216 + b * 65536) + c * 256 := by
    have := Nat.two_pow_add_eq_or_of_lt (i := 16) (b := c * 256) (by omega) (a * 256 + b)
    have e : 2 ^ 16 * (a * 256 + b) = a * 16777216 + b * 65536 := by omega
    rw [e] at this; exact this.symm
  have h3 : (a * 16777216 + b * 65536 + c * 256) ||| d = (a * 16777216 + b * 65536 + c * 256) + d := by
    have := Nat.two_pow_add_eq_or_of_lt (i := 8) (b := d) (by omega) (a * 65536 + b * 256 + c)
    have e : 2 ^ 8 * (a * 65536 + b * 256 + c) = a * 16777216 + b * 65536 + c * 256 := by omega
    rw [e] at this; exact this.symm
  rw [h1, h2, h3]
  omega
theorem or_four32 (a b c d : Nat) (ha : a < 256) (hb : b < 256) (hc : c < 256) (hd : d < 256) :
    bits .or .u32 (bits .or .u32 (bits .or .u32 ((a : Int) * 16777216) ((b : Int) * 65536)) ((c : Int) * 256)) (d : Int) = ((((a * 256 + b) * 256 + c) * 256 + d : Nat) : Int) := by
  have e0 : ((a : Int) * 16777216) = ((a * 16777216 : Nat) : Int) := by omega
  have e1 : ((b : Int) * 65536) = ((b * 65536 : Nat) : Int) := by omega
  have e2 : ((c : Int) * 256) = ((c * 256 : Nat) : Int) := by omega
  have l1 : a * 16777216 ||| b * 65536 < 4294967296 := or_lt32 (by omega) (by omega)
  rw [e0, e1, e2, u32_or_nat _ _ (by omega) (by omega), u32_or_nat _ _ l1 (by omega), u32_or_nat _ _ (or_lt32 l1 (by omega)) (by omega), or_four a b c d hb hc hd]

set_option maxHeartbeats 1000000 in
set_option maxRecDepth 100000 in
theorem bclone_any (x : Addr) (n c : Nat) (bs : List Nat) (w : World) (h : Row8 w (some x) n c (nums bs)) (hn : n ≤ 140737488355328) :
    Calls Try.prog 51 #[.slice (some x) n c] w fun e w' => ∃ v', e = .returned v' ∧ w'.ownsRow w.heap.size 5 1 v' bs.length (ins .u8 (nums bs)) ∧ Chg (fun _ => False) w w' := by
  obtain ⟨i0, hi, hz0, hz1, hz2⟩ := info_parts infoU8
  have hone := ins_one .u8 (nums bs)
  have hl : bs.length = n := by have := h.1; rw [nums_len] at this; exact this
  have c1 := chg_one w (.cells #[] 5)
  have hF1 : From _ (some x) n c 1 (ins .u8 (nums bs)) := (Bk.row8_chg h c1).src
  have hE := own_empty w 5
  have hs : w.heap.size ≤ (w.alloc (.cells #[] 5)).heap.size := c1.size
  have heq := eq_nil8_some x n c w
  clear h
  go_enter Try.func51, Try.ntmps51
  go_wp2_with (at_builtin; refine wpList_append_moved rfl _ _ 39 rfl w.heap.size 5 i0 (.int .u8 0) 1 1 Try.underlying39 hi hz0 hz1 hz2 rfl (by decide) _ 0 [] rfl (some x) n c rfl (ins .u8 (nums bs)) hE hF1 hone (by unfold maxLen; omega) (by omega) hs ?_)
  intro v2 w2 ho hg hm
  have HC : Hid (Chg (fun _ => False) w w2) := c1.grown hg (fun k e => .inr (hE.lt k e).1)
  have HO : Hid (w2.ownsRow w.heap.size 5 1 v2 bs.length (ins .u8 (nums bs))) := by
    show World.ownsRow _ _ _ _ _ _ _
    rw [hl]
    simpa using ho
  clear ho hg hm hE hF1 c1
  go_wp2
  go_ret
  exact ⟨_, rfl, HO.out, HC.out⟩

theorem dnew_short (ad : Option Addr) (n c : Nat) (w : World) (h : n < 5) : Calls Try.prog 24 #[.slice ad n c] w fun x w' => x = .returned (.tuple #[.pointer none, .int .i64 1]) ∧ w = w' := by
  have h1 : decide ((n : Int) < 5) = true := by simp; omega
  have h2 : (n : Int) < 5 := by omega
  clear h
  go_enter Try.func24, Try.ntmps24
  go_wp2
  go_ret2
  exact ⟨rfl, rfl⟩
set_option maxHeartbeats 4000000 in
set_option maxRecDepth 100000 in
theorem dnew_long (ad : Option Addr) (n c : Nat) (bs : List Nat) (w : World) (h : Row8 w ad n c (nums bs)) (hdig : Rc.Dig bs) (hn : n ≤ 140737488355328) (h5 : 5 ≤ n) : Calls Try.prog 24 #[.slice ad n c] w fun x w' =>
    ((bs.getD 0 0 ≠ 0 ∨ Rc.code5 bs = 4294967295) ∧ x = .returned (.tuple #[.pointer none, .int .i64 2]) ∧ Chg (fun _ => False) w w')
    ∨ (bs.getD 0 0 = 0 ∧ Rc.code5 bs < 4294967295 ∧ ∃ r v, x = .returned (.tuple #[.pointer (some ⟨r, 0, none⟩), .int .i64 0]) ∧ Dcd w' w.heap.size r v bs ⟨5, 4294967295, Rc.code5 bs⟩ ∧ Chg (fun _ => False) w w') := by
  have HR : Hid (Row8 w ad n c (nums bs)) := h
  obtain ⟨x, hx, hcl⟩ := Bk.row8_cells h (by omega)
  have hg : ∀ k, (nums bs).getD k 0 = ((bs.getD k 0 : Nat) : Int) := fun k => by
    simp only [nums, List.getD_eq_getElem?_getD, List.getElem?_map]
    cases bs[k]? <;> rfl
  have k0 := hcl 0 (by omega)
  have k1 := hcl 1 (by omega)
  have k2 := hcl 2 (by omega)
  have k3 := hcl 3 (by omega)
  have k4 := hcl 4 (by omega)
  simp only [hg] at k0 k1 k2 k3 k4
  simp only [Addr.add, Nat.reduceEqDiff, if_false, if_true] at k0 k1 k2 k3 k4
  have d0 := dig_at hdig 0
  have d1 := dig_at hdig 1
  have d2 := dig_at hdig 2
  have d3 := dig_at hdig 3
  have d4 := dig_at hdig 4
  have ec : Rc.code5 bs = ((bs.getD 1 0 * 256 + bs.getD 2 0) * 256 + bs.getD 3 0) * 256 + bs.getD 4 0 := rfl
  rw [ec]
  generalize bs.getD 0 0 = b0 at *
  generalize bs.getD 1 0 = b1 at *
  generalize bs.getD 2 0 = b2 at *
  generalize bs.getD 3 0 = b3 at *
  generalize bs.getD 4 0 = b4 at *
  obtain ⟨cd, hcd⟩ : ∃ cd : Nat, cd = ((b1 * 256 + b2) * 256 + b3) * 256 + b4 := ⟨_, rfl⟩
  rw [← hcd]
  have HOR : Hid (bits .or .u32 (bits .or .u32 (bits .or .u32 ((b1 : Int) * 16777216) ((b2 : Int) * 65536)) ((b3 : Int) * 256)) (b4 : Int) = (cd : Int)) := by show _ = _; rw [hcd]; exact or_four32 b1 b2 b3 b4 d1 d2 d3 d4
  have y0 : (b0 : Int) < 256 := by omega
  have y1 : (b1 : Int) < 256 := by omega
  have y2 : (b2 : Int) < 256 := by omega
  have y3 : (b3 : Int) < 256 := by omega
  have y4 : (b4 : Int) < 256 := by omega
  have z1 : (b1 : Int) % 4294967296 = (b1 : Int) := by omega
  have z2 : (b2 : Int) % 4294967296 = (b2 : Int) := by omega
  have z3 : (b3 : Int) % 4294967296 = (b3 : Int) := by omega
  have z4 : (b4 : Int) % 4294967296 = (b4 : Int) := by omega
  have s1 : (b1 : Int) * 16777216 % 4294967296 = (b1 : Int) * 16777216 := by omega
  have s2 : (b2 : Int) * 65536 % 4294967296 = (b2 : Int) * 65536 := by omega
  have s3 : (b3 : Int) * 256 % 4294967296 = (b3 : Int) * 256 := by omega
  have q1 : decide ((n : Int) < 5) = false := by simp; omega
  have q2 : ¬ (n : Int) < 5 := by omega
  have q3 : 5 ≤ (n : Int) := by omega
  have hcd2 : cd ≤ 4294967295 := by omega
  have r0 : (0 : Int) < (n : Int) := by omega
  have t0 : 0 < n := by omega
  have r1 : (1 : Int) < (n : Int) := by omega
  have t1 : 1 < n := by omega
  have r2 : (2 : Int) < (n : Int) := by omega
  have t2 : 2 < n := by omega
  have r3 : (3 : Int) < (n : Int) := by omega
  have t3 : 3 < n := by omega
  have r4 : (4 : Int) < (n : Int) := by omega
  have t4 : 4 < n := by omega
  have HN : Hid (n ≤ 140737488355328) := hn
  subst hx
  clear hcl hg d0 d1 d2 d3 d4 ec hcd h hdig hn
  go_enter Try.func24, Try.ntmps24
  go_wp2_with fail
  go_quiet (fail)
  rename_i nq
  rw [HOR.out]
  have HC1 : Hid (Chg (fun _ => False) w (w.drewN nq)) := chg_drewN _ _
  have k0 := cell_chg k0 HC1.out
  have HR1 : Hid (Row8 (w.drewN nq) (some x) n c (nums bs)) := Bk.row8_chg HR.out HC1.out
  generalize w.drewN nq = w1 at *
  clear k1 k2 k3 k4 HR HOR s1 s2 s3 z1 z2 z3 z4 y1 y2 y3 y4
  by_cases hb : b0 = 0
  · have HB0 : Hid (b0 = 0) := hb
    have e9 : (b0 : Int) = 0 := by omega
    rw [e9] at k0
    clear e9 hb
    by_cases hc9 : cd = 4294967295
    · have HCD : Hid (cd = 4294967295) := hc9
      have e1 : ((cd : Int) == 4294967295) = true := by simp; omega
      have e2 : decide ((cd : Int) = 4294967295) = true := by simp; omega
      have e3 : (cd : Int) = 4294967295 := by omega
      rw [e3]
      clear hc9 hcd2
      go_wp2
      go_ret2
      exact .inl ⟨.inr HCD.out, rfl, HC1.out⟩
    · have HCD : Hid (cd < 4294967295) := by show _ < _; omega
      have e1 : ((cd : Int) == 4294967295) = false := by simp; omega
      have e2 : decide ((cd : Int) = 4294967295) = false := by simp; omega
      clear hc9 hcd2
      go_wp2_with fail
      refine (bclone_any x n c bs _ HR1.out HN.out).mono ?_
      rintro y w2 ⟨v2, rfl, ho2, hc2⟩
      have HO2 : Hid (w2.ownsRow w.heap.size 5 1 v2 bs.length (ins .u8 (nums bs))) := owns_base ho2 HC1.out.size
      have HC2 : Hid (Chg (fun _ => False) w w2) := chg_then HC1.out hc2
      obtain ⟨a2, cp2, hv2, _⟩ := own_any ho2
      subst hv2
      clear ho2 hc2
      go_wp2
      go_ret2
      refine .inr ⟨HB0.out, HCD.out, _, _, rfl, ⟨HC2.out.size, heap_alloc_last _ _, ownsRow_keep HO2.out (chg_one _ _) (fun _ _ f => f)⟩, chg_then HC2.out (chg_one _ _)⟩
  · have HB : Hid (b0 ≠ 0) := hb
    have e0 : ((b0 : Int) == 0) = false := by simp; omega
    have e2 : decide ((b0 : Int) = 0) = false := by simp; omega
    clear hb hcd2
    go_wp2
    go_ret2
    exact .inl ⟨.inl HB.out, rfl, HC1.out⟩

/-- All that is asked of the decoder. -/
theorem dec_spec : DecSpec Dcd where
  base := fun h => h.hr
  blk := fun h => ⟨_, h.blk⟩
  own := fun h => h.own
  keep := fun h hc h1 h2 => h.keep hc h1 h2
  down := fun h hB => ⟨Nat.le_trans hB h.hr, h.blk, owns_base h.own hB⟩
  new := fun ad n c bs w h hdig hn => by
    have hl : bs.length = n := by have := h.1; rw [nums_len] at this; exact this
    by_cases h5 : n < 5
    · exact (dnew_short ad n c w h5).mono fun x w' ⟨h1, h2⟩ => .inl ⟨by omega, h1, by rw [← h2]; exact Chg.refl _ _⟩
    · refine (dnew_long ad n c bs w h hdig hn (by omega)).mono fun x w' hx => ?_
      rcases hx with ⟨h1, h2, h3⟩ | ⟨h1, h2, h3⟩
      · exact .inr (.inl ⟨by omega, h1, h2, h3⟩)
      · exact .inr (.inr ⟨by omega, h1, h2, h3⟩)
  bit := fun B B' a s v u bs d xs i w h hO hdig hl hS hI hB => by
    by_cases hi : 0 ≤ i ∧ i < (xs.length : Int)
    · obtain ⟨j, rfl⟩ : ∃ j : Nat, (j : Int) = i := ⟨i.toNat, by omega⟩
      have hj : j < xs.length := by omega
      have hok : (⟨false, (j : Int), 0, 0⟩ : Q).ok xs.length := by unfold Q.ok; rw [if_neg (fun f => by cases f)]; exact hi
      have hp : pAt xs (j : Int) = xs[j] := by unfold pAt; simp [hj]
      refine (dbit_in B B' a s v u bs d xs j w h hO hdig hl hS hI hj _ rfl).mono fun x w' hx => ?_
      rcases hx with ⟨h1, h2, h3⟩ | ⟨d', h1, h2, h3⟩
      · refine .inl ⟨1, ?_, by decide, h2, h3⟩
        unfold decA
        rw [if_pos hok]
        simp only [Bool.false_eq_true, if_false]
        rw [hp, h1]
      · refine .inr ⟨(bt (Rc.oneD d (d.R / 2048 * xs[j].toNat))).toNat, d', _, ?_, ?_, h3⟩
        · unfold decA
          rw [if_pos hok]
          simp only [Bool.false_eq_true, if_false]
          rw [hp, h1]
          simp only [pSet, hp, Int.toNat_natCast]
        · rw [h2]
          cases Rc.oneD d (d.R / 2048 * xs[j].toNat) <;> rfl
    · have hok : ¬ (⟨false, i, 0, 0⟩ : Q).ok xs.length := by unfold Q.ok; rw [if_neg (fun f => by cases f)]; exact hi
      refine (dbit_out B' a s u xs i w hS (by omega)).mono fun x w' ⟨h1, h2⟩ => .inl ⟨7, ?_, by decide, h1, h.new h2, hS.new h2, h2.mono (fun _ f => f.elim)⟩
      unfold decA
      rw [if_neg hok]
  dir := fun B a v bs d n w h hO hdig hl hB => by
    by_cases hn : 0 ≤ n ∧ n ≤ 32
    · obtain ⟨m, rfl⟩ : ∃ m : Nat, (m : Int) = n := ⟨n.toNat, by omega⟩
      have hok : (⟨true, 0, (m : Int), 0⟩ : Q).ok ([] : List Int).length := by unfold Q.ok; rw [if_pos rfl]; exact hn
      refine (ddirect_in B a v bs d m w h hO hdig hl (by omega)).mono fun x w' hx => ?_
      rcases hx with ⟨e, h1, h2, h3⟩ | ⟨b, d', h1, h3⟩
      · refine .inl ⟨e, ?_, h2, h3⟩
        unfold decA
        rw [if_pos hok]
        simp only [if_true, Int.toNat_natCast]
        rw [h1]
      · refine .inr ⟨b, d', ?_, h3⟩
        unfold decA
        rw [if_pos hok]
        simp only [if_true, Int.toNat_natCast]
        rw [h1]
    · have hok : ¬ (⟨true, 0, n, 0⟩ : Q).ok ([] : List Int).length := by unfold Q.ok; rw [if_pos rfl]; exact hn
      refine (ddirect_out a n w (by omega)).mono fun x w' ⟨h1, h2⟩ => .inl ⟨7, ?_, by decide, h1, h.new h2, h2.mono (fun _ f => f.elim)⟩
      unfold decA
      exact if_neg hok
  used := fun B a v bs d w h => dused_any B a v bs d w h
  done := fun B a v bs d w h => ddone_any B a v bs d w h
end Go.Proofs.Ytibgjpifmpljkaa
