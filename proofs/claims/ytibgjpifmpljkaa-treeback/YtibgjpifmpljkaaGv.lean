/- The law's given and got: a step to the program's encoder, of the program's decoder; of no statement by itself. -/
import Derived.Test.YtibgjpifmpljkaaBt
namespace Go.Proofs.Ytibgjpifmpljkaa
open Go.RowKit
set_option linter.unusedVariables false

theorem box_not {w : World} {b : Nat} {kd row p n xv : Int} (h : Bx w b kd row p n xv) {z : Nat} {cs : Array Value} {t : TypeId} (hb : w.heap[z]? = some (.cells cs t (0, 0))) (ht : t ≠ 50) : z ≠ b := fun e => by
  rw [e] at hb
  exact ty_ne hb h.blk ht
theorem shift_low (X N : Nat) (hN : N ≤ 32) : (X : Int) * 2 ^ (32 - N) % 4294967296 / 2 ^ (32 - N) = ((X % 2 ^ N : Nat) : Int) := by
  have h1 : (2 : Nat) ^ N * 2 ^ (32 - N) = 4294967296 := by rw [← Nat.pow_add, show N + (32 - N) = 32 by omega]
  have h2 : X * 2 ^ (32 - N) % 4294967296 / 2 ^ (32 - N) = X % 2 ^ N := by
    rw [← h1, Nat.mul_mod_mul_right, Nat.mul_div_cancel _ (Nat.pow_pos (by omega))]
  have h3 : ((X * 2 ^ (32 - N) % 4294967296 / 2 ^ (32 - N) : Nat) : Int) = (X : Int) * 2 ^ (32 - N) % 4294967296 / 2 ^ (32 - N) := by simp
  rw [← h3, h2]

set_option maxHeartbeats 8000000 in
set_option maxRecDepth 100000 in
theorem given_0 (w : World) (B T P : Nat) (av bv : Value) (its : List It) (a : Nat) (v : Value) (e : Rc.E) (row p n xv : Int) (k : Nat) (hk : k < its.length) (hkk : ofN its.length row = k) (h : Sts w B T P av bv its) (hE : Enc w B a v e) (hF : ∀ z, Foot a v z → T ≤ z) (hB : B ≤ w.heap.size) (er : Int) (e' : Rc.E) (xs' : List Int) (hP : PSide 14 #[.pointer (some ⟨a, 0, none⟩), .pointer (some ⟨its[k].a, 0, none⟩), .int .i64 p, .int .i64 n, .int .i64 xv] B a v its[k] e er e' xs') (hI : In31 xs') (hl : xs'.length = its[k].xs.length) :
    Calls Try.prog 23 #[.pointer (some ⟨P, 0, none⟩), .pointer (some ⟨a, 0, none⟩), .agg #[.int .i64 0, .int .i64 row, .int .i64 p, .int .i64 n, .int .i64 xv]] w fun z w' => z = .returned (.bool (er == 0)) ∧ ∃ v', Sts w' B T P av bv (its.set k (its[k].to xs')) ∧ Enc w' B a v' e' ∧ Chg (SideP a v its[k]) w w' ∧ Moved w v v' := by
  have HPS : Hid (PSide 14 #[.pointer (some ⟨a, 0, none⟩), .pointer (some ⟨its[k].a, 0, none⟩), .int .i64 p, .int .i64 n, .int .i64 xv] B a v its[k] e er e' xs') := hP
  have HOK : Hid (In31 xs' ∧ xs'.length = its[k].xs.length) := ⟨hI, hl⟩
  have HEN : Hid (Enc w B a v e ∧ (∀ z, Foot a v z → T ≤ z) ∧ B ≤ w.heap.size) := ⟨hE, hF, hB⟩
  clear hP hI hl hE hF hB
  have HKK : Hid (ofN its.length row = k) := hkk
  obtain ⟨la, lac, hav, hlac, hga⟩ := h.a_at (by omega)
  have cw := chg_one w (.cells #[.int .i64 0, .int .i64 row, .int .i64 p, .int .i64 n, .int .i64 xv] 50)
  have HCW : Hid (Chg (fun _ => False) w (w.alloc (.cells #[.int .i64 0, .int .i64 row, .int .i64 p, .int .i64 n, .int .i64 xv] 50))) := cw
  have HBX : Hid (Bx (w.alloc (.cells #[.int .i64 0, .int .i64 row, .int .i64 p, .int .i64 n, .int .i64 xv] 50)) w.heap.size 0 row p n xv) := ⟨heap_alloc_last w _⟩
  have HST : Hid (Sts (w.alloc (.cells #[.int .i64 0, .int .i64 row, .int .i64 p, .int .i64 n, .int .i64 xv] 50)) B T P av bv its) := h.new cw
  have hpa := cell0 h.pair
  have hlaw := hga k hk
  rw [hav] at hpa
  have Hla1 : Hid ((w.alloc (.cells #[.int .i64 0, .int .i64 row, .int .i64 p, .int .i64 n, .int .i64 xv] 50)).cell? ⟨P, 0, none⟩ = some (.slice (some ⟨la, 0, none⟩) its.length lac)) := cell_chg hpa cw
  have Hla2 : Hid ((w.alloc (.cells #[.int .i64 0, .int .i64 row, .int .i64 p, .int .i64 n, .int .i64 xv] 50)).cell? ⟨la, k, none⟩ = some (.pointer (some ⟨its[k].a, 0, none⟩))) := cell_chg hlaw cw
  have hkL : (k : Int) < (its.length : Int) := by omega
  clear hkk h hav hga cw hlaw hpa
  go_enter Try.func23, Try.ntmps23
  go_wp2_with fail
  generalize w.alloc (.cells #[.int .i64 0, .int .i64 row, .int .i64 p, .int .i64 n, .int .i64 xv] 50) = wB at *
  obtain ⟨b, hb⟩ : ∃ b, w.heap.size = b := ⟨_, rfl⟩
  rw [hb] at HBX ⊢
  clear hb
  refine wp_region_phase (mk := fun u => #[_, _, _, _, _, _, _, _, u 8, u 9, u 10, u 11, u 12, u 13, u 14, u 15, u 16, _, _, _, _, _, _, _, _, _, _, _, _, _, _, _, _, _, _, _, _, _, _, _, _, _, _, _, _, _, _, _, _, _, _, _, _, _, _, _, _, _, _, _, _, _, _]) (G := lookG [(8, .pointer (some ⟨P, 0, none⟩)), (9, .pointer (some ⟨P, 0, none⟩)), (10, .pointer (some ⟨P, 0, none⟩)), (11, .slice (some ⟨la, 0, none⟩) its.length lac), (12, .pointer (some ⟨P, 0, none⟩)), (13, .agg #[.int .i64 0, .int .i64 row, .int .i64 p, .int .i64 n, .int .i64 xv]), (14, .int .i64 (k : Int)), (15, .pointer (some ⟨la, k, none⟩)), (16, .pointer (some ⟨its[k].a, 0, none⟩))]) (J := fun _ _ w => Chg (fun _ => False) wB w) [6] (fun _ => undef) rfl (by kernel_rfl) 9 _ rfl rfl (by kernel_rfl) (by kernel_rfl) (by kernel_rfl) (by decide) ?_ ?_ ?_ ?_ ?_
  · repeat (refine ⟨⟨_, rfl, fun _ _ => rfl⟩, ?_⟩)
    exact trivial
  · exact fun q u u2 w _ h => h
  · exact (Chg.refl _ wB).drew
  · refine ⟨?_, ?_, ?_, ?_, ?_, ?_, ?_, ?_, ?_, trivial⟩
    · show StepR _ _ _ _ _ _  _ -- 8
      unfold StepR
      intro q u w hj hd K hK
      clear hd
      go_simp
      exact hK.out (.pointer (some ⟨P, 0, none⟩)) rfl
    · show StepR _ _ _ _ _ _  _ -- 9
      unfold StepR
      intro q u w hj hd K hK
      have h8 : u 8 = .pointer (some ⟨P, 0, none⟩) := hd.get 0 (by kernel_rfl)
      clear hd
      simp only [h8] at hK
      go_simp
      exact hK.out (.pointer (some ⟨P, 0, none⟩)) rfl
    · show StepR _ _ _ _ _ _  _ -- 10
      unfold StepR
      intro q u w hj hd K hK
      have h9 : u 9 = .pointer (some ⟨P, 0, none⟩) := hd.get 1 (by kernel_rfl)
      clear hd
      simp only [h9] at hK
      go_simp
      exact hK.out (.pointer (some ⟨P, 0, none⟩)) rfl
    · show StepR _ _ _ _ _ _  _ -- 11
      unfold StepR
      intro q u w hj hd K hK
      have h10 : u 10 = .pointer (some ⟨P, 0, none⟩) := hd.get 2 (by kernel_rfl)
      clear hd
      simp only [h10] at hK
      have hcell := cell_chg Hla1.out hj
      go_simp
      exact hK.out _ rfl
    · show StepR _ _ _ _ _ _  _ -- 12
      unfold StepR
      intro q u w hj hd K hK
      clear hd
      go_simp
      exact hK.out (.pointer (some ⟨P, 0, none⟩)) rfl
    · show StepR _ _ _ _ _ _  _ -- 13
      unfold StepR
      intro q u w hj hd K hK
      clear hd
      obtain ⟨b0, b1, b2, b3, b4⟩ := (HBX.out.keep hj (fun f => f)).cells
      go_simp
      exact hK.out _ rfl
    · show StepW _ _ _ _ _ _ 0 _ -- 14
      unfold StepW
      intro u w hj hd K hK
      have h12 : u 12 = .pointer (some ⟨P, 0, none⟩) := hd.get 4 (by kernel_rfl)
      have h13 : u 13 = .agg #[.int .i64 0, .int .i64 row, .int .i64 p, .int .i64 n, .int .i64 xv] := hd.get 5 (by kernel_rfl)
      clear hd
      simp only [h12, h13] at hK
      go_simp
      go_at_call 49
      refine (ofS_any w B T P av bv its 0 row p n xv (HST.out.new hj)).mono ?_
      rintro z w2 ⟨rfl, c2⟩
      rw [HKK.out]
      exact hK.out _ w2 (chg_then hj c2) rfl
    · show StepR _ _ _ _ _ _  _ -- 15
      unfold StepR
      intro q u w hj hd K hK
      have h11 : u 11 = .slice (some ⟨la, 0, none⟩) its.length lac := hd.get 3 (by kernel_rfl)
      have h14 : u 14 = .int .i64 (k : Int) := hd.get 6 (by kernel_rfl)
      clear hd
      simp only [h11, h14] at hK
      go_simp
      exact hK.out (.pointer (some ⟨la, k, none⟩)) rfl
    · show StepR _ _ _ _ _ _  _ -- 16
      unfold StepR
      intro q u w hj hd K hK
      have h15 : u 15 = .pointer (some ⟨la, k, none⟩) := hd.get 7 (by kernel_rfl)
      clear hd
      simp only [h15] at hK
      have hcell := cell_chg Hla2.out hj
      go_simp
      exact hK.out _ rfl
  · intro u w1 hj hA K hK
    have e_ : u 16 = .pointer (some ⟨its[k].a, 0, none⟩) := hA.at 16 (by kernel_rfl)
    clear hA
    have HBX2 : Hid (Bx w1 b 0 row p n xv) := HBX.out.keep hj (fun f => f)
    have HST2 : Hid (Sts w1 B T P av bv its) := HST.out.new hj
    have HCA : Hid (Chg (fun _ => False) w w1) := chg_then HCW.out hj
    clear hj HBX HST Hla1 Hla2 HCW
    go_simp
    refine hK.out _ _ ?_
    clear hK
    generalize w1 = wA at *
    have HBX := HBX2
    have HST := HST2
    clear HBX2 HST2
    obtain ⟨b0, b1, b2, b3, b4⟩ := HBX.out.cells
    go_wp2_with fail
    refine ((HPS.out : PSide _ _ _ _ _ _ _ _ _ _) _ (HEN.out.1.new HCA.out) (HST.out.st k hk) (Nat.le_trans HEN.out.2.2 HCA.out.size)).mono ?_
    rintro z w2 ⟨rfl, v', hE2, hS2, c2, hM⟩
    have HE2 : Hid (Enc w2 B a v' e') := hE2
    have HS2 : Hid (Sts w2 B T P av bv (its.set k (its[k].to xs'))) := HST.out.put k hk c2 (fun z f => by
      rcases f with f | f
      · exact .inr (.inl (HEN.out.2.1 z f))
      · exact .inr (.inr f)) xs' hS2 HOK.out.1 HOK.out.2
    have HC2 : Hid (Chg (SideP a v its[k]) w w2) := (HCA.out.mono (fun _ f => f.elim)).trans c2 (fun z f => .inl f)
    have HM2 : Hid (Moved w v v') := moved_from HCA.out.size hM
    clear hE2 hS2 c2 hM b0 b1 b2 b3 b4
    go_wp2
    go_ret
    exact ⟨rfl, v', HS2.out, HE2.out, HC2.out, HM2.out⟩

set_option maxHeartbeats 8000000 in
set_option maxRecDepth 100000 in
theorem given_1 (w : World) (B T P : Nat) (av bv : Value) (its : List It) (a : Nat) (v : Value) (e : Rc.E) (row p n xv : Int) (k : Nat) (hk : k < its.length) (hkk : ofN its.length row = k) (h : Sts w B T P av bv its) (hE : Enc w B a v e) (hF : ∀ z, Foot a v z → T ≤ z) (hB : B ≤ w.heap.size) (er : Int) (e' : Rc.E) (xs' : List Int) (hP : PSide 13 #[.pointer (some ⟨a, 0, none⟩), .pointer (some ⟨its[k].a, 0, none⟩), .int .i64 p, .int .i64 n, .int .i64 xv] B a v its[k] e er e' xs') (hI : In31 xs') (hl : xs'.length = its[k].xs.length) :
    Calls Try.prog 23 #[.pointer (some ⟨P, 0, none⟩), .pointer (some ⟨a, 0, none⟩), .agg #[.int .i64 1, .int .i64 row, .int .i64 p, .int .i64 n, .int .i64 xv]] w fun z w' => z = .returned (.bool (er == 0)) ∧ ∃ v', Sts w' B T P av bv (its.set k (its[k].to xs')) ∧ Enc w' B a v' e' ∧ Chg (SideP a v its[k]) w w' ∧ Moved w v v' := by
  have HPS : Hid (PSide 13 #[.pointer (some ⟨a, 0, none⟩), .pointer (some ⟨its[k].a, 0, none⟩), .int .i64 p, .int .i64 n, .int .i64 xv] B a v its[k] e er e' xs') := hP
  have HOK : Hid (In31 xs' ∧ xs'.length = its[k].xs.length) := ⟨hI, hl⟩
  have HEN : Hid (Enc w B a v e ∧ (∀ z, Foot a v z → T ≤ z) ∧ B ≤ w.heap.size) := ⟨hE, hF, hB⟩
  clear hP hI hl hE hF hB
  have HKK : Hid (ofN its.length row = k) := hkk
  obtain ⟨la, lac, hav, hlac, hga⟩ := h.a_at (by omega)
  have cw := chg_one w (.cells #[.int .i64 1, .int .i64 row, .int .i64 p, .int .i64 n, .int .i64 xv] 50)
  have HCW : Hid (Chg (fun _ => False) w (w.alloc (.cells #[.int .i64 1, .int .i64 row, .int .i64 p, .int .i64 n, .int .i64 xv] 50))) := cw
  have HBX : Hid (Bx (w.alloc (.cells #[.int .i64 1, .int .i64 row, .int .i64 p, .int .i64 n, .int .i64 xv] 50)) w.heap.size 1 row p n xv) := ⟨heap_alloc_last w _⟩
  have HST : Hid (Sts (w.alloc (.cells #[.int .i64 1, .int .i64 row, .int .i64 p, .int .i64 n, .int .i64 xv] 50)) B T P av bv its) := h.new cw
  have hpa := cell0 h.pair
  have hlaw := hga k hk
  rw [hav] at hpa
  have Hla1 : Hid ((w.alloc (.cells #[.int .i64 1, .int .i64 row, .int .i64 p, .int .i64 n, .int .i64 xv] 50)).cell? ⟨P, 0, none⟩ = some (.slice (some ⟨la, 0, none⟩) its.length lac)) := cell_chg hpa cw
  have Hla2 : Hid ((w.alloc (.cells #[.int .i64 1, .int .i64 row, .int .i64 p, .int .i64 n, .int .i64 xv] 50)).cell? ⟨la, k, none⟩ = some (.pointer (some ⟨its[k].a, 0, none⟩))) := cell_chg hlaw cw
  have hkL : (k : Int) < (its.length : Int) := by omega
  clear hkk h hav hga cw hlaw hpa
  go_enter Try.func23, Try.ntmps23
  go_wp2_with fail
  generalize w.alloc (.cells #[.int .i64 1, .int .i64 row, .int .i64 p, .int .i64 n, .int .i64 xv] 50) = wB at *
  obtain ⟨b, hb⟩ : ∃ b, w.heap.size = b := ⟨_, rfl⟩
  rw [hb] at HBX ⊢
  clear hb
  refine wp_region_phase (mk := fun u => #[_, _, _, _, _, _, _, _, u 8, u 9, u 10, u 11, u 12, u 13, u 14, u 15, u 16, _, _, _, _, _, _, _, _, _, _, _, _, _, _, _, _, _, _, _, _, _, _, _, _, _, _, _, _, _, _, _, _, _, _, _, _, _, _, _, _, _, _, _, _, _, _]) (G := lookG [(8, .pointer (some ⟨P, 0, none⟩)), (9, .pointer (some ⟨P, 0, none⟩)), (10, .pointer (some ⟨P, 0, none⟩)), (11, .slice (some ⟨la, 0, none⟩) its.length lac), (12, .pointer (some ⟨P, 0, none⟩)), (13, .agg #[.int .i64 1, .int .i64 row, .int .i64 p, .int .i64 n, .int .i64 xv]), (14, .int .i64 (k : Int)), (15, .pointer (some ⟨la, k, none⟩)), (16, .pointer (some ⟨its[k].a, 0, none⟩))]) (J := fun _ _ w => Chg (fun _ => False) wB w) [6] (fun _ => undef) rfl (by kernel_rfl) 9 _ rfl rfl (by kernel_rfl) (by kernel_rfl) (by kernel_rfl) (by decide) ?_ ?_ ?_ ?_ ?_
  · repeat (refine ⟨⟨_, rfl, fun _ _ => rfl⟩, ?_⟩)
    exact trivial
  · exact fun q u u2 w _ h => h
  · exact (Chg.refl _ wB).drew
  · refine ⟨?_, ?_, ?_, ?_, ?_, ?_, ?_, ?_, ?_, trivial⟩
    · show StepR _ _ _ _ _ _  _ -- 8
      unfold StepR
      intro q u w hj hd K hK
      clear hd
      go_simp
      exact hK.out (.pointer (some ⟨P, 0, none⟩)) rfl
    · show StepR _ _ _ _ _ _  _ -- 9
      unfold StepR
      intro q u w hj hd K hK
      have h8 : u 8 = .pointer (some ⟨P, 0, none⟩) := hd.get 0 (by kernel_rfl)
      clear hd
      simp only [h8] at hK
      go_simp
      exact hK.out (.pointer (some ⟨P, 0, none⟩)) rfl
    · show StepR _ _ _ _ _ _  _ -- 10
      unfold StepR
      intro q u w hj hd K hK
      have h9 : u 9 = .pointer (some ⟨P, 0, none⟩) := hd.get 1 (by kernel_rfl)
      clear hd
      simp only [h9] at hK
      go_simp
      exact hK.out (.pointer (some ⟨P, 0, none⟩)) rfl
    · show StepR _ _ _ _ _ _  _ -- 11
      unfold StepR
      intro q u w hj hd K hK
      have h10 : u 10 = .pointer (some ⟨P, 0, none⟩) := hd.get 2 (by kernel_rfl)
      clear hd
      simp only [h10] at hK
      have hcell := cell_chg Hla1.out hj
      go_simp
      exact hK.out _ rfl
    · show StepR _ _ _ _ _ _  _ -- 12
      unfold StepR
      intro q u w hj hd K hK
      clear hd
      go_simp
      exact hK.out (.pointer (some ⟨P, 0, none⟩)) rfl
    · show StepR _ _ _ _ _ _  _ -- 13
      unfold StepR
      intro q u w hj hd K hK
      clear hd
      obtain ⟨b0, b1, b2, b3, b4⟩ := (HBX.out.keep hj (fun f => f)).cells
      go_simp
      exact hK.out _ rfl
    · show StepW _ _ _ _ _ _ 0 _ -- 14
      unfold StepW
      intro u w hj hd K hK
      have h12 : u 12 = .pointer (some ⟨P, 0, none⟩) := hd.get 4 (by kernel_rfl)
      have h13 : u 13 = .agg #[.int .i64 1, .int .i64 row, .int .i64 p, .int .i64 n, .int .i64 xv] := hd.get 5 (by kernel_rfl)
      clear hd
      simp only [h12, h13] at hK
      go_simp
      go_at_call 49
      refine (ofS_any w B T P av bv its 1 row p n xv (HST.out.new hj)).mono ?_
      rintro z w2 ⟨rfl, c2⟩
      rw [HKK.out]
      exact hK.out _ w2 (chg_then hj c2) rfl
    · show StepR _ _ _ _ _ _  _ -- 15
      unfold StepR
      intro q u w hj hd K hK
      have h11 : u 11 = .slice (some ⟨la, 0, none⟩) its.length lac := hd.get 3 (by kernel_rfl)
      have h14 : u 14 = .int .i64 (k : Int) := hd.get 6 (by kernel_rfl)
      clear hd
      simp only [h11, h14] at hK
      go_simp
      exact hK.out (.pointer (some ⟨la, k, none⟩)) rfl
    · show StepR _ _ _ _ _ _  _ -- 16
      unfold StepR
      intro q u w hj hd K hK
      have h15 : u 15 = .pointer (some ⟨la, k, none⟩) := hd.get 7 (by kernel_rfl)
      clear hd
      simp only [h15] at hK
      have hcell := cell_chg Hla2.out hj
      go_simp
      exact hK.out _ rfl
  · intro u w1 hj hA K hK
    have e_ : u 16 = .pointer (some ⟨its[k].a, 0, none⟩) := hA.at 16 (by kernel_rfl)
    clear hA
    have HBX2 : Hid (Bx w1 b 1 row p n xv) := HBX.out.keep hj (fun f => f)
    have HST2 : Hid (Sts w1 B T P av bv its) := HST.out.new hj
    have HCA : Hid (Chg (fun _ => False) w w1) := chg_then HCW.out hj
    clear hj HBX HST Hla1 Hla2 HCW
    go_simp
    refine hK.out _ _ ?_
    clear hK
    generalize w1 = wA at *
    have HBX := HBX2
    have HST := HST2
    clear HBX2 HST2
    obtain ⟨b0, b1, b2, b3, b4⟩ := HBX.out.cells
    go_wp2_with fail
    refine ((HPS.out : PSide _ _ _ _ _ _ _ _ _ _) _ (HEN.out.1.new HCA.out) (HST.out.st k hk) (Nat.le_trans HEN.out.2.2 HCA.out.size)).mono ?_
    rintro z w2 ⟨rfl, v', hE2, hS2, c2, hM⟩
    have HE2 : Hid (Enc w2 B a v' e') := hE2
    have HS2 : Hid (Sts w2 B T P av bv (its.set k (its[k].to xs'))) := HST.out.put k hk c2 (fun z f => by
      rcases f with f | f
      · exact .inr (.inl (HEN.out.2.1 z f))
      · exact .inr (.inr f)) xs' hS2 HOK.out.1 HOK.out.2
    have HC2 : Hid (Chg (SideP a v its[k]) w w2) := (HCA.out.mono (fun _ f => f.elim)).trans c2 (fun z f => .inl f)
    have HM2 : Hid (Moved w v v') := moved_from HCA.out.size hM
    clear hE2 hS2 c2 hM b0 b1 b2 b3 b4
    go_wp2
    go_ret
    exact ⟨rfl, v', HS2.out, HE2.out, HC2.out, HM2.out⟩

set_option maxHeartbeats 8000000 in
set_option maxRecDepth 100000 in
theorem given_3 (w : World) (B T P : Nat) (av bv : Value) (its : List It) (a : Nat) (v : Value) (e : Rc.E) (row p n xv : Int) (k : Nat) (hk : k < its.length) (hkk : ofN its.length row = k) (h : Sts w B T P av bv its) (hE : Enc w B a v e) (hF : ∀ z, Foot a v z → T ≤ z) (hB : B ≤ w.heap.size) (er : Int) (e' : Rc.E) (xs' : List Int) (hP : PSide 43 #[.pointer (some ⟨a, 0, none⟩), .pointer (some ⟨its[k].a, 0, none⟩), .int .i64 p, .int .i64 xv] B a v its[k] e er e' xs') (hI : In31 xs') (hl : xs'.length = its[k].xs.length) :
    Calls Try.prog 23 #[.pointer (some ⟨P, 0, none⟩), .pointer (some ⟨a, 0, none⟩), .agg #[.int .i64 3, .int .i64 row, .int .i64 p, .int .i64 n, .int .i64 xv]] w fun z w' => z = .returned (.bool (er == 0)) ∧ ∃ v', Sts w' B T P av bv (its.set k (its[k].to xs')) ∧ Enc w' B a v' e' ∧ Chg (SideP a v its[k]) w w' ∧ Moved w v v' := by
  have HPS : Hid (PSide 43 #[.pointer (some ⟨a, 0, none⟩), .pointer (some ⟨its[k].a, 0, none⟩), .int .i64 p, .int .i64 xv] B a v its[k] e er e' xs') := hP
  have HOK : Hid (In31 xs' ∧ xs'.length = its[k].xs.length) := ⟨hI, hl⟩
  have HEN : Hid (Enc w B a v e ∧ (∀ z, Foot a v z → T ≤ z) ∧ B ≤ w.heap.size) := ⟨hE, hF, hB⟩
  clear hP hI hl hE hF hB
  have HKK : Hid (ofN its.length row = k) := hkk
  obtain ⟨la, lac, hav, hlac, hga⟩ := h.a_at (by omega)
  have cw := chg_one w (.cells #[.int .i64 3, .int .i64 row, .int .i64 p, .int .i64 n, .int .i64 xv] 50)
  have HCW : Hid (Chg (fun _ => False) w (w.alloc (.cells #[.int .i64 3, .int .i64 row, .int .i64 p, .int .i64 n, .int .i64 xv] 50))) := cw
  have HBX : Hid (Bx (w.alloc (.cells #[.int .i64 3, .int .i64 row, .int .i64 p, .int .i64 n, .int .i64 xv] 50)) w.heap.size 3 row p n xv) := ⟨heap_alloc_last w _⟩
  have HST : Hid (Sts (w.alloc (.cells #[.int .i64 3, .int .i64 row, .int .i64 p, .int .i64 n, .int .i64 xv] 50)) B T P av bv its) := h.new cw
  have hpa := cell0 h.pair
  have hlaw := hga k hk
  rw [hav] at hpa
  have Hla1 : Hid ((w.alloc (.cells #[.int .i64 3, .int .i64 row, .int .i64 p, .int .i64 n, .int .i64 xv] 50)).cell? ⟨P, 0, none⟩ = some (.slice (some ⟨la, 0, none⟩) its.length lac)) := cell_chg hpa cw
  have Hla2 : Hid ((w.alloc (.cells #[.int .i64 3, .int .i64 row, .int .i64 p, .int .i64 n, .int .i64 xv] 50)).cell? ⟨la, k, none⟩ = some (.pointer (some ⟨its[k].a, 0, none⟩))) := cell_chg hlaw cw
  have hkL : (k : Int) < (its.length : Int) := by omega
  clear hkk h hav hga cw hlaw hpa
  go_enter Try.func23, Try.ntmps23
  go_wp2_with fail
  generalize w.alloc (.cells #[.int .i64 3, .int .i64 row, .int .i64 p, .int .i64 n, .int .i64 xv] 50) = wB at *
  obtain ⟨b, hb⟩ : ∃ b, w.heap.size = b := ⟨_, rfl⟩
  rw [hb] at HBX ⊢
  clear hb
  refine wp_region_phase (mk := fun u => #[_, _, _, _, _, _, _, _, u 8, u 9, u 10, u 11, u 12, u 13, u 14, u 15, u 16, _, _, _, _, _, _, _, _, _, _, _, _, _, _, _, _, _, _, _, _, _, _, _, _, _, _, _, _, _, _, _, _, _, _, _, _, _, _, _, _, _, _, _, _, _, _]) (G := lookG [(8, .pointer (some ⟨P, 0, none⟩)), (9, .pointer (some ⟨P, 0, none⟩)), (10, .pointer (some ⟨P, 0, none⟩)), (11, .slice (some ⟨la, 0, none⟩) its.length lac), (12, .pointer (some ⟨P, 0, none⟩)), (13, .agg #[.int .i64 3, .int .i64 row, .int .i64 p, .int .i64 n, .int .i64 xv]), (14, .int .i64 (k : Int)), (15, .pointer (some ⟨la, k, none⟩)), (16, .pointer (some ⟨its[k].a, 0, none⟩))]) (J := fun _ _ w => Chg (fun _ => False) wB w) [6] (fun _ => undef) rfl (by kernel_rfl) 9 _ rfl rfl (by kernel_rfl) (by kernel_rfl) (by kernel_rfl) (by decide) ?_ ?_ ?_ ?_ ?_
  · repeat (refine ⟨⟨_, rfl, fun _ _ => rfl⟩, ?_⟩)
    exact trivial
  · exact fun q u u2 w _ h => h
  · exact (Chg.refl _ wB).drew
  · refine ⟨?_, ?_, ?_, ?_, ?_, ?_, ?_, ?_, ?_, trivial⟩
    · show StepR _ _ _ _ _ _  _ -- 8
      unfold StepR
      intro q u w hj hd K hK
      clear hd
      go_simp
      exact hK.out (.pointer (some ⟨P, 0, none⟩)) rfl
    · show StepR _ _ _ _ _ _  _ -- 9
      unfold StepR
      intro q u w hj hd K hK
      have h8 : u 8 = .pointer (some ⟨P, 0, none⟩) := hd.get 0 (by kernel_rfl)
      clear hd
      simp only [h8] at hK
      go_simp
      exact hK.out (.pointer (some ⟨P, 0, none⟩)) rfl
    · show StepR _ _ _ _ _ _  _ -- 10
      unfold StepR
      intro q u w hj hd K hK
      have h9 : u 9 = .pointer (some ⟨P, 0, none⟩) := hd.get 1 (by kernel_rfl)
      clear hd
      simp only [h9] at hK
      go_simp
      exact hK.out (.pointer (some ⟨P, 0, none⟩)) rfl
    · show StepR _ _ _ _ _ _  _ -- 11
      unfold StepR
      intro q u w hj hd K hK
      have h10 : u 10 = .pointer (some ⟨P, 0, none⟩) := hd.get 2 (by kernel_rfl)
      clear hd
      simp only [h10] at hK
      have hcell := cell_chg Hla1.out hj
      go_simp
      exact hK.out _ rfl
    · show StepR _ _ _ _ _ _  _ -- 12
      unfold StepR
      intro q u w hj hd K hK
      clear hd
      go_simp
      exact hK.out (.pointer (some ⟨P, 0, none⟩)) rfl
    · show StepR _ _ _ _ _ _  _ -- 13
      unfold StepR
      intro q u w hj hd K hK
      clear hd
      obtain ⟨b0, b1, b2, b3, b4⟩ := (HBX.out.keep hj (fun f => f)).cells
      go_simp
      exact hK.out _ rfl
    · show StepW _ _ _ _ _ _ 0 _ -- 14
      unfold StepW
      intro u w hj hd K hK
      have h12 : u 12 = .pointer (some ⟨P, 0, none⟩) := hd.get 4 (by kernel_rfl)
      have h13 : u 13 = .agg #[.int .i64 3, .int .i64 row, .int .i64 p, .int .i64 n, .int .i64 xv] := hd.get 5 (by kernel_rfl)
      clear hd
      simp only [h12, h13] at hK
      go_simp
      go_at_call 49
      refine (ofS_any w B T P av bv its 3 row p n xv (HST.out.new hj)).mono ?_
      rintro z w2 ⟨rfl, c2⟩
      rw [HKK.out]
      exact hK.out _ w2 (chg_then hj c2) rfl
    · show StepR _ _ _ _ _ _  _ -- 15
      unfold StepR
      intro q u w hj hd K hK
      have h11 : u 11 = .slice (some ⟨la, 0, none⟩) its.length lac := hd.get 3 (by kernel_rfl)
      have h14 : u 14 = .int .i64 (k : Int) := hd.get 6 (by kernel_rfl)
      clear hd
      simp only [h11, h14] at hK
      go_simp
      exact hK.out (.pointer (some ⟨la, k, none⟩)) rfl
    · show StepR _ _ _ _ _ _  _ -- 16
      unfold StepR
      intro q u w hj hd K hK
      have h15 : u 15 = .pointer (some ⟨la, k, none⟩) := hd.get 7 (by kernel_rfl)
      clear hd
      simp only [h15] at hK
      have hcell := cell_chg Hla2.out hj
      go_simp
      exact hK.out _ rfl
  · intro u w1 hj hA K hK
    have e_ : u 16 = .pointer (some ⟨its[k].a, 0, none⟩) := hA.at 16 (by kernel_rfl)
    clear hA
    have HBX2 : Hid (Bx w1 b 3 row p n xv) := HBX.out.keep hj (fun f => f)
    have HST2 : Hid (Sts w1 B T P av bv its) := HST.out.new hj
    have HCA : Hid (Chg (fun _ => False) w w1) := chg_then HCW.out hj
    clear hj HBX HST Hla1 Hla2 HCW
    go_simp
    refine hK.out _ _ ?_
    clear hK
    generalize w1 = wA at *
    have HBX := HBX2
    have HST := HST2
    clear HBX2 HST2
    obtain ⟨b0, b1, b2, b3, b4⟩ := HBX.out.cells
    go_wp2_with fail
    refine ((HPS.out : PSide _ _ _ _ _ _ _ _ _ _) _ (HEN.out.1.new HCA.out) (HST.out.st k hk) (Nat.le_trans HEN.out.2.2 HCA.out.size)).mono ?_
    rintro z w2 ⟨rfl, v', hE2, hS2, c2, hM⟩
    have HE2 : Hid (Enc w2 B a v' e') := hE2
    have HS2 : Hid (Sts w2 B T P av bv (its.set k (its[k].to xs'))) := HST.out.put k hk c2 (fun z f => by
      rcases f with f | f
      · exact .inr (.inl (HEN.out.2.1 z f))
      · exact .inr (.inr f)) xs' hS2 HOK.out.1 HOK.out.2
    have HC2 : Hid (Chg (SideP a v its[k]) w w2) := (HCA.out.mono (fun _ f => f.elim)).trans c2 (fun z f => .inl f)
    have HM2 : Hid (Moved w v v') := moved_from HCA.out.size hM
    clear hE2 hS2 c2 hM b0 b1 b2 b3 b4
    go_wp2
    go_ret
    exact ⟨rfl, v', HS2.out, HE2.out, HC2.out, HM2.out⟩

set_option maxHeartbeats 8000000 in
set_option maxRecDepth 100000 in
theorem given_4 (w : World) (B T P : Nat) (av bv : Value) (its : List It) (a : Nat) (v : Value) (e : Rc.E) (row p n xv : Int) (k : Nat) (hk : k < its.length) (hkk : ofN its.length row = k) (h : Sts w B T P av bv its) (hE : Enc w B a v e) (hF : ∀ z, Foot a v z → T ≤ z) (hB : B ≤ w.heap.size) (er : Int) (e' : Rc.E) (xs' : List Int) (hP : PSide 50 #[.pointer (some ⟨a, 0, none⟩), .int .u32 (IntKind.u32.wrap xv), .int .i64 n] B a v its[k] e er e' xs') (hI : In31 xs') (hl : xs'.length = its[k].xs.length) :
    Calls Try.prog 23 #[.pointer (some ⟨P, 0, none⟩), .pointer (some ⟨a, 0, none⟩), .agg #[.int .i64 4, .int .i64 row, .int .i64 p, .int .i64 n, .int .i64 xv]] w fun z w' => z = .returned (.bool (er == 0)) ∧ ∃ v', Sts w' B T P av bv (its.set k (its[k].to xs')) ∧ Enc w' B a v' e' ∧ Chg (SideP a v its[k]) w w' ∧ Moved w v v' := by
  have HPS : Hid (PSide 50 #[.pointer (some ⟨a, 0, none⟩), .int .u32 (IntKind.u32.wrap xv), .int .i64 n] B a v its[k] e er e' xs') := hP
  have HOK : Hid (In31 xs' ∧ xs'.length = its[k].xs.length) := ⟨hI, hl⟩
  have HEN : Hid (Enc w B a v e ∧ (∀ z, Foot a v z → T ≤ z) ∧ B ≤ w.heap.size) := ⟨hE, hF, hB⟩
  clear hP hI hl hE hF hB
  have HKK : Hid (ofN its.length row = k) := hkk
  obtain ⟨la, lac, hav, hlac, hga⟩ := h.a_at (by omega)
  have cw := chg_one w (.cells #[.int .i64 4, .int .i64 row, .int .i64 p, .int .i64 n, .int .i64 xv] 50)
  have HCW : Hid (Chg (fun _ => False) w (w.alloc (.cells #[.int .i64 4, .int .i64 row, .int .i64 p, .int .i64 n, .int .i64 xv] 50))) := cw
  have HBX : Hid (Bx (w.alloc (.cells #[.int .i64 4, .int .i64 row, .int .i64 p, .int .i64 n, .int .i64 xv] 50)) w.heap.size 4 row p n xv) := ⟨heap_alloc_last w _⟩
  have HST : Hid (Sts (w.alloc (.cells #[.int .i64 4, .int .i64 row, .int .i64 p, .int .i64 n, .int .i64 xv] 50)) B T P av bv its) := h.new cw
  have hpa := cell0 h.pair
  have hlaw := hga k hk
  rw [hav] at hpa
  have Hla1 : Hid ((w.alloc (.cells #[.int .i64 4, .int .i64 row, .int .i64 p, .int .i64 n, .int .i64 xv] 50)).cell? ⟨P, 0, none⟩ = some (.slice (some ⟨la, 0, none⟩) its.length lac)) := cell_chg hpa cw
  have Hla2 : Hid ((w.alloc (.cells #[.int .i64 4, .int .i64 row, .int .i64 p, .int .i64 n, .int .i64 xv] 50)).cell? ⟨la, k, none⟩ = some (.pointer (some ⟨its[k].a, 0, none⟩))) := cell_chg hlaw cw
  have hkL : (k : Int) < (its.length : Int) := by omega
  clear hkk h hav hga cw hlaw hpa
  go_enter Try.func23, Try.ntmps23
  go_wp2_with fail
  generalize w.alloc (.cells #[.int .i64 4, .int .i64 row, .int .i64 p, .int .i64 n, .int .i64 xv] 50) = wB at *
  obtain ⟨b, hb⟩ : ∃ b, w.heap.size = b := ⟨_, rfl⟩
  rw [hb] at HBX ⊢
  clear hb
  refine wp_region_phase (mk := fun u => #[_, _, _, _, _, _, _, _, u 8, u 9, u 10, u 11, u 12, u 13, u 14, u 15, u 16, _, _, _, _, _, _, _, _, _, _, _, _, _, _, _, _, _, _, _, _, _, _, _, _, _, _, _, _, _, _, _, _, _, _, _, _, _, _, _, _, _, _, _, _, _, _]) (G := lookG [(8, .pointer (some ⟨P, 0, none⟩)), (9, .pointer (some ⟨P, 0, none⟩)), (10, .pointer (some ⟨P, 0, none⟩)), (11, .slice (some ⟨la, 0, none⟩) its.length lac), (12, .pointer (some ⟨P, 0, none⟩)), (13, .agg #[.int .i64 4, .int .i64 row, .int .i64 p, .int .i64 n, .int .i64 xv]), (14, .int .i64 (k : Int)), (15, .pointer (some ⟨la, k, none⟩)), (16, .pointer (some ⟨its[k].a, 0, none⟩))]) (J := fun _ _ w => Chg (fun _ => False) wB w) [6] (fun _ => undef) rfl (by kernel_rfl) 9 _ rfl rfl (by kernel_rfl) (by kernel_rfl) (by kernel_rfl) (by decide) ?_ ?_ ?_ ?_ ?_
  · repeat (refine ⟨⟨_, rfl, fun _ _ => rfl⟩, ?_⟩)
    exact trivial
  · exact fun q u u2 w _ h => h
  · exact (Chg.refl _ wB).drew
  · refine ⟨?_, ?_, ?_, ?_, ?_, ?_, ?_, ?_, ?_, trivial⟩
    · show StepR _ _ _ _ _ _  _ -- 8
      unfold StepR
      intro q u w hj hd K hK
      clear hd
      go_simp
      exact hK.out (.pointer (some ⟨P, 0, none⟩)) rfl
    · show StepR _ _ _ _ _ _  _ -- 9
      unfold StepR
      intro q u w hj hd K hK
      have h8 : u 8 = .pointer (some ⟨P, 0, none⟩) := hd.get 0 (by kernel_rfl)
      clear hd
      simp only [h8] at hK
      go_simp
      exact hK.out (.pointer (some ⟨P, 0, none⟩)) rfl
    · show StepR _ _ _ _ _ _  _ -- 10
      unfold StepR
      intro q u w hj hd K hK
      have h9 : u 9 = .pointer (some ⟨P, 0, none⟩) := hd.get 1 (by kernel_rfl)
      clear hd
      simp only [h9] at hK
      go_simp
      exact hK.out (.pointer (some ⟨P, 0, none⟩)) rfl
    · show StepR _ _ _ _ _ _  _ -- 11
      unfold StepR
      intro q u w hj hd K hK
      have h10 : u 10 = .pointer (some ⟨P, 0, none⟩) := hd.get 2 (by kernel_rfl)
      clear hd
      simp only [h10] at hK
      have hcell := cell_chg Hla1.out hj
      go_simp
      exact hK.out _ rfl
    · show StepR _ _ _ _ _ _  _ -- 12
      unfold StepR
      intro q u w hj hd K hK
      clear hd
      go_simp
      exact hK.out (.pointer (some ⟨P, 0, none⟩)) rfl
    · show StepR _ _ _ _ _ _  _ -- 13
      unfold StepR
      intro q u w hj hd K hK
      clear hd
      obtain ⟨b0, b1, b2, b3, b4⟩ := (HBX.out.keep hj (fun f => f)).cells
      go_simp
      exact hK.out _ rfl
    · show StepW _ _ _ _ _ _ 0 _ -- 14
      unfold StepW
      intro u w hj hd K hK
      have h12 : u 12 = .pointer (some ⟨P, 0, none⟩) := hd.get 4 (by kernel_rfl)
      have h13 : u 13 = .agg #[.int .i64 4, .int .i64 row, .int .i64 p, .int .i64 n, .int .i64 xv] := hd.get 5 (by kernel_rfl)
      clear hd
      simp only [h12, h13] at hK
      go_simp
      go_at_call 49
      refine (ofS_any w B T P av bv its 4 row p n xv (HST.out.new hj)).mono ?_
      rintro z w2 ⟨rfl, c2⟩
      rw [HKK.out]
      exact hK.out _ w2 (chg_then hj c2) rfl
    · show StepR _ _ _ _ _ _  _ -- 15
      unfold StepR
      intro q u w hj hd K hK
      have h11 : u 11 = .slice (some ⟨la, 0, none⟩) its.length lac := hd.get 3 (by kernel_rfl)
      have h14 : u 14 = .int .i64 (k : Int) := hd.get 6 (by kernel_rfl)
      clear hd
      simp only [h11, h14] at hK
      go_simp
      exact hK.out (.pointer (some ⟨la, k, none⟩)) rfl
    · show StepR _ _ _ _ _ _  _ -- 16
      unfold StepR
      intro q u w hj hd K hK
      have h15 : u 15 = .pointer (some ⟨la, k, none⟩) := hd.get 7 (by kernel_rfl)
      clear hd
      simp only [h15] at hK
      have hcell := cell_chg Hla2.out hj
      go_simp
      exact hK.out _ rfl
  · intro u w1 hj hA K hK
    have e_ : u 16 = .pointer (some ⟨its[k].a, 0, none⟩) := hA.at 16 (by kernel_rfl)
    clear hA
    have HBX2 : Hid (Bx w1 b 4 row p n xv) := HBX.out.keep hj (fun f => f)
    have HST2 : Hid (Sts w1 B T P av bv its) := HST.out.new hj
    have HCA : Hid (Chg (fun _ => False) w w1) := chg_then HCW.out hj
    clear hj HBX HST Hla1 Hla2 HCW
    go_simp
    refine hK.out _ _ ?_
    clear hK
    generalize w1 = wA at *
    have HBX := HBX2
    have HST := HST2
    clear HBX2 HST2
    obtain ⟨b0, b1, b2, b3, b4⟩ := HBX.out.cells
    go_wp2_with fail
    refine ((HPS.out : PSide _ _ _ _ _ _ _ _ _ _) _ (HEN.out.1.new HCA.out) (HST.out.st k hk) (Nat.le_trans HEN.out.2.2 HCA.out.size)).mono ?_
    rintro z w2 ⟨rfl, v', hE2, hS2, c2, hM⟩
    have HE2 : Hid (Enc w2 B a v' e') := hE2
    have HS2 : Hid (Sts w2 B T P av bv (its.set k (its[k].to xs'))) := HST.out.put k hk c2 (fun z f => by
      rcases f with f | f
      · exact .inr (.inl (HEN.out.2.1 z f))
      · exact .inr (.inr f)) xs' hS2 HOK.out.1 HOK.out.2
    have HC2 : Hid (Chg (SideP a v its[k]) w w2) := (HCA.out.mono (fun _ f => f.elim)).trans c2 (fun z f => .inl f)
    have HM2 : Hid (Moved w v v') := moved_from HCA.out.size hM
    clear hE2 hS2 c2 hM b0 b1 b2 b3 b4
    go_wp2
    go_ret
    exact ⟨rfl, v', HS2.out, HE2.out, HC2.out, HM2.out⟩

set_option maxHeartbeats 8000000 in
set_option maxRecDepth 100000 in
theorem given_c (w : World) (B T P : Nat) (av bv : Value) (its : List It) (a : Nat) (kd row p n xv : Int) (k : Nat) (hk : k < its.length) (hkk : ofN its.length row = k) (h : Sts w B T P av bv its) (k0 : kd ≠ 0) (k1 : kd ≠ 1) (k3 : kd ≠ 3) (k4 : kd ≠ 4) :
    Calls Try.prog 23 #[.pointer (some ⟨P, 0, none⟩), .pointer (some ⟨a, 0, none⟩), .agg #[.int .i64 kd, .int .i64 row, .int .i64 p, .int .i64 n, .int .i64 xv]] w fun z w' => z = .returned (.bool false) ∧ Sts w' B T P av bv its ∧ Chg (fun _ => False) w w' := by
  have q0 : (kd == 0) = false := by simp; omega
  have q1 : (kd == 1) = false := by simp; omega
  have q3 : (kd == 3) = false := by simp; omega
  have q4 : (kd == 4) = false := by simp; omega
  have HKK : Hid (ofN its.length row = k) := hkk
  obtain ⟨la, lac, hav, hlac, hga⟩ := h.a_at (by omega)
  have cw := chg_one w (.cells #[.int .i64 kd, .int .i64 row, .int .i64 p, .int .i64 n, .int .i64 xv] 50)
  have HCW : Hid (Chg (fun _ => False) w (w.alloc (.cells #[.int .i64 kd, .int .i64 row, .int .i64 p, .int .i64 n, .int .i64 xv] 50))) := cw
  have HBX : Hid (Bx (w.alloc (.cells #[.int .i64 kd, .int .i64 row, .int .i64 p, .int .i64 n, .int .i64 xv] 50)) w.heap.size kd row p n xv) := ⟨heap_alloc_last w _⟩
  have HST : Hid (Sts (w.alloc (.cells #[.int .i64 kd, .int .i64 row, .int .i64 p, .int .i64 n, .int .i64 xv] 50)) B T P av bv its) := h.new cw
  have hpa := cell0 h.pair
  have hlaw := hga k hk
  rw [hav] at hpa
  have Hla1 : Hid ((w.alloc (.cells #[.int .i64 kd, .int .i64 row, .int .i64 p, .int .i64 n, .int .i64 xv] 50)).cell? ⟨P, 0, none⟩ = some (.slice (some ⟨la, 0, none⟩) its.length lac)) := cell_chg hpa cw
  have Hla2 : Hid ((w.alloc (.cells #[.int .i64 kd, .int .i64 row, .int .i64 p, .int .i64 n, .int .i64 xv] 50)).cell? ⟨la, k, none⟩ = some (.pointer (some ⟨its[k].a, 0, none⟩))) := cell_chg hlaw cw
  have hkL : (k : Int) < (its.length : Int) := by omega
  clear hkk h hav hga cw hlaw hpa
  go_enter Try.func23, Try.ntmps23
  go_wp2_with fail
  generalize w.alloc (.cells #[.int .i64 kd, .int .i64 row, .int .i64 p, .int .i64 n, .int .i64 xv] 50) = wB at *
  obtain ⟨b, hb⟩ : ∃ b, w.heap.size = b := ⟨_, rfl⟩
  rw [hb] at HBX ⊢
  clear hb
  refine wp_region_phase (mk := fun u => #[_, _, _, _, _, _, _, _, u 8, u 9, u 10, u 11, u 12, u 13, u 14, u 15, u 16, _, _, _, _, _, _, _, _, _, _, _, _, _, _, _, _, _, _, _, _, _, _, _, _, _, _, _, _, _, _, _, _, _, _, _, _, _, _, _, _, _, _, _, _, _, _]) (G := lookG [(8, .pointer (some ⟨P, 0, none⟩)), (9, .pointer (some ⟨P, 0, none⟩)), (10, .pointer (some ⟨P, 0, none⟩)), (11, .slice (some ⟨la, 0, none⟩) its.length lac), (12, .pointer (some ⟨P, 0, none⟩)), (13, .agg #[.int .i64 kd, .int .i64 row, .int .i64 p, .int .i64 n, .int .i64 xv]), (14, .int .i64 (k : Int)), (15, .pointer (some ⟨la, k, none⟩)), (16, .pointer (some ⟨its[k].a, 0, none⟩))]) (J := fun _ _ w => Chg (fun _ => False) wB w) [6] (fun _ => undef) rfl (by kernel_rfl) 9 _ rfl rfl (by kernel_rfl) (by kernel_rfl) (by kernel_rfl) (by decide) ?_ ?_ ?_ ?_ ?_
  · repeat (refine ⟨⟨_, rfl, fun _ _ => rfl⟩, ?_⟩)
    exact trivial
  · exact fun q u u2 w _ h => h
  · exact (Chg.refl _ wB).drew
  · refine ⟨?_, ?_, ?_, ?_, ?_, ?_, ?_, ?_, ?_, trivial⟩
    · show StepR _ _ _ _ _ _  _ -- 8
      unfold StepR
      intro q u w hj hd K hK
      clear hd
      go_simp
      exact hK.out (.pointer (some ⟨P, 0, none⟩)) rfl
    · show StepR _ _ _ _ _ _  _ -- 9
      unfold StepR
      intro q u w hj hd K hK
      have h8 : u 8 = .pointer (some ⟨P, 0, none⟩) := hd.get 0 (by kernel_rfl)
      clear hd
      simp only [h8] at hK
      go_simp
      exact hK.out (.pointer (some ⟨P, 0, none⟩)) rfl
    · show StepR _ _ _ _ _ _  _ -- 10
      unfold StepR
      intro q u w hj hd K hK
      have h9 : u 9 = .pointer (some ⟨P, 0, none⟩) := hd.get 1 (by kernel_rfl)
      clear hd
      simp only [h9] at hK
      go_simp
      exact hK.out (.pointer (some ⟨P, 0, none⟩)) rfl
    · show StepR _ _ _ _ _ _  _ -- 11
      unfold StepR
      intro q u w hj hd K hK
      have h10 : u 10 = .pointer (some ⟨P, 0, none⟩) := hd.get 2 (by kernel_rfl)
      clear hd
      simp only [h10] at hK
      have hcell := cell_chg Hla1.out hj
      go_simp
      exact hK.out _ rfl
    · show StepR _ _ _ _ _ _  _ -- 12
      unfold StepR
      intro q u w hj hd K hK
      clear hd
      go_simp
      exact hK.out (.pointer (some ⟨P, 0, none⟩)) rfl
    · show StepR _ _ _ _ _ _  _ -- 13
      unfold StepR
      intro q u w hj hd K hK
      clear hd
      obtain ⟨b0, b1, b2, b3, b4⟩ := (HBX.out.keep hj (fun f => f)).cells
      go_simp
      exact hK.out _ rfl
    · show StepW _ _ _ _ _ _ 0 _ -- 14
      unfold StepW
      intro u w hj hd K hK
      have h12 : u 12 = .pointer (some ⟨P, 0, none⟩) := hd.get 4 (by kernel_rfl)
      have h13 : u 13 = .agg #[.int .i64 kd, .int .i64 row, .int .i64 p, .int .i64 n, .int .i64 xv] := hd.get 5 (by kernel_rfl)
      clear hd
      simp only [h12, h13] at hK
      go_simp
      go_at_call 49
      refine (ofS_any w B T P av bv its kd row p n xv (HST.out.new hj)).mono ?_
      rintro z w2 ⟨rfl, c2⟩
      rw [HKK.out]
      exact hK.out _ w2 (chg_then hj c2) rfl
    · show StepR _ _ _ _ _ _  _ -- 15
      unfold StepR
      intro q u w hj hd K hK
      have h11 : u 11 = .slice (some ⟨la, 0, none⟩) its.length lac := hd.get 3 (by kernel_rfl)
      have h14 : u 14 = .int .i64 (k : Int) := hd.get 6 (by kernel_rfl)
      clear hd
      simp only [h11, h14] at hK
      go_simp
      exact hK.out (.pointer (some ⟨la, k, none⟩)) rfl
    · show StepR _ _ _ _ _ _  _ -- 16
      unfold StepR
      intro q u w hj hd K hK
      have h15 : u 15 = .pointer (some ⟨la, k, none⟩) := hd.get 7 (by kernel_rfl)
      clear hd
      simp only [h15] at hK
      have hcell := cell_chg Hla2.out hj
      go_simp
      exact hK.out _ rfl
  · intro u w1 hj hA K hK
    have e_ : u 16 = .pointer (some ⟨its[k].a, 0, none⟩) := hA.at 16 (by kernel_rfl)
    clear hA
    have HBX2 : Hid (Bx w1 b kd row p n xv) := HBX.out.keep hj (fun f => f)
    have HST2 : Hid (Sts w1 B T P av bv its) := HST.out.new hj
    have HCA : Hid (Chg (fun _ => False) w w1) := chg_then HCW.out hj
    clear hj HBX HST Hla1 Hla2 HCW
    go_simp
    refine hK.out _ _ ?_
    clear hK
    generalize w1 = wA at *
    have HBX := HBX2
    have HST := HST2
    clear HBX2 HST2
    obtain ⟨b0, b1, b2, b3, b4⟩ := HBX.out.cells
    go_wp2
    go_ret
    exact ⟨rfl, HST.out, HCA.out⟩

def bitN (x : Int) : Int := if x = 0 then 0 else 1
theorem bit_fn (x : Int) (w : World) : Calls Try.prog 55 #[.int .i64 x] w fun z w' => z = .returned (.int .i64 (bitN x)) ∧ w = w' := by
  unfold bitN
  by_cases h : x = 0
  · subst h
    go_enter Try.func55, Try.ntmps55
    go_wp2
    go_ret
    exact ⟨rfl, rfl⟩
  · rw [if_neg h]
    have q : (x == 0) = false := by simp; omega
    go_enter Try.func55, Try.ntmps55
    go_wp2
    go_ret
    exact ⟨rfl, rfl⟩

set_option maxHeartbeats 8000000 in
set_option maxRecDepth 100000 in
theorem got_0 {Dec : World → Nat → Nat → Value → List Nat → Rc.D → Prop} (S : DecSpec Dec) (w : World) (B T P : Nat) (av bv : Value) (its : List It) (a : Nat) (v : Value) (bs : List Nat) (d : Rc.D) (row p n xv : Int) (k : Nat) (hk : k < its.length) (hkk : ofN its.length row = k) (h : Sts w B T P av bv its) (hD : Dec w B a v bs d) (hF : T ≤ a) (hB : B ≤ w.heap.size) (d' : Rc.D) (xs' : List Int) (hP : PGet Dec 52 #[.pointer (some ⟨a, 0, none⟩), .pointer (some ⟨its[k].a, 0, none⟩), .int .i64 p, .int .i64 n] B a v its[k] bs d (.tuple #[.int .i64 xv, .int .i64 0]) d' xs') (hI : In31 xs') (hl : xs'.length = its[k].xs.length) :
    Calls Try.prog 25 #[.pointer (some ⟨P, 0, none⟩), .pointer (some ⟨a, 0, none⟩), .agg #[.int .i64 0, .int .i64 row, .int .i64 p, .int .i64 n, .int .i64 xv]] w fun z w' => z = .returned (.bool true) ∧ Sts w' B T P av bv (its.set k (its[k].to xs')) ∧ Dec w' B a v bs d' ∧ Chg (Fd a its[k].v) w w' := by
  have HPS : Hid (PGet Dec 52 #[.pointer (some ⟨a, 0, none⟩), .pointer (some ⟨its[k].a, 0, none⟩), .int .i64 p, .int .i64 n] B a v its[k] bs d (.tuple #[.int .i64 xv, .int .i64 0]) d' xs') := hP
  have HOK : Hid (In31 xs' ∧ xs'.length = its[k].xs.length) := ⟨hI, hl⟩
  have HEN : Hid (Dec w B a v bs d ∧ T ≤ a ∧ B ≤ w.heap.size) := ⟨hD, hF, hB⟩
  clear hP hI hl hD hF hB
  have HKK : Hid (ofN its.length row = k) := hkk
  obtain ⟨la, lac, hav, hlac, hga⟩ := h.a_at (by omega)
  have cw := chg_one w (.cells #[.int .i64 0, .int .i64 row, .int .i64 p, .int .i64 n, .int .i64 xv] 50)
  have HCW : Hid (Chg (fun _ => False) w (w.alloc (.cells #[.int .i64 0, .int .i64 row, .int .i64 p, .int .i64 n, .int .i64 xv] 50))) := cw
  have HBX : Hid (Bx (w.alloc (.cells #[.int .i64 0, .int .i64 row, .int .i64 p, .int .i64 n, .int .i64 xv] 50)) w.heap.size 0 row p n xv) := ⟨heap_alloc_last w _⟩
  have HST : Hid (Sts (w.alloc (.cells #[.int .i64 0, .int .i64 row, .int .i64 p, .int .i64 n, .int .i64 xv] 50)) B T P av bv its) := h.new cw
  have hpa := cell0 h.pair
  have hlaw := hga k hk
  rw [hav] at hpa
  have Hla1 : Hid ((w.alloc (.cells #[.int .i64 0, .int .i64 row, .int .i64 p, .int .i64 n, .int .i64 xv] 50)).cell? ⟨P, 0, none⟩ = some (.slice (some ⟨la, 0, none⟩) its.length lac)) := cell_chg hpa cw
  have Hla2 : Hid ((w.alloc (.cells #[.int .i64 0, .int .i64 row, .int .i64 p, .int .i64 n, .int .i64 xv] 50)).cell? ⟨la, k, none⟩ = some (.pointer (some ⟨its[k].a, 0, none⟩))) := cell_chg hlaw cw
  have hkL : (k : Int) < (its.length : Int) := by omega
  clear hkk h hav hga cw hlaw hpa
  go_enter Try.func25, Try.ntmps25
  go_wp2_with fail
  generalize w.alloc (.cells #[.int .i64 0, .int .i64 row, .int .i64 p, .int .i64 n, .int .i64 xv] 50) = wB at *
  obtain ⟨b, hb⟩ : ∃ b, w.heap.size = b := ⟨_, rfl⟩
  rw [hb] at HBX ⊢
  clear hb
  refine wp_region_phase (mk := fun u => #[_, _, _, _, _, _, _, _, _, _, _, _, _, _, _, _, u 16, u 17, u 18, u 19, u 20, u 21, u 22, u 23, u 24, _, _, _, _, _, _, _, _, _, _, _, _, _, _, _, _, _, _, _, _, _, _, _, _, _, _, _, _, _, _, _, _, _, _, _, _, _, _, _, _, _, _, _, _, _, _, _, _, _, _, _, _, _, _, _, _, _, _, _, _, _, _, _, _, _, _, _, _, _, _, _, _, _, _, _, _, _, _, _, _, _, _, _, _, _]) (G := lookG [(16, .pointer (some ⟨P, 0, none⟩)), (17, .pointer (some ⟨P, 0, none⟩)), (18, .pointer (some ⟨P, 0, none⟩)), (19, .slice (some ⟨la, 0, none⟩) its.length lac), (20, .pointer (some ⟨P, 0, none⟩)), (21, .agg #[.int .i64 0, .int .i64 row, .int .i64 p, .int .i64 n, .int .i64 xv]), (22, .int .i64 (k : Int)), (23, .pointer (some ⟨la, k, none⟩)), (24, .pointer (some ⟨its[k].a, 0, none⟩))]) (J := fun _ _ w => Chg (fun _ => False) wB w) [6] (fun _ => undef) rfl (by kernel_rfl) 9 _ rfl rfl (by kernel_rfl) (by kernel_rfl) (by kernel_rfl) (by decide) ?_ ?_ ?_ ?_ ?_
  · repeat (refine ⟨⟨_, rfl, fun _ _ => rfl⟩, ?_⟩)
    exact trivial
  · exact fun q u u2 w _ h => h
  · exact (Chg.refl _ wB).drew
  · refine ⟨?_, ?_, ?_, ?_, ?_, ?_, ?_, ?_, ?_, trivial⟩
    · show StepR _ _ _ _ _ _  _ -- 16
      unfold StepR
      intro q u w hj hd K hK
      clear hd
      go_simp
      exact hK.out (.pointer (some ⟨P, 0, none⟩)) rfl
    · show StepR _ _ _ _ _ _  _ -- 17
      unfold StepR
      intro q u w hj hd K hK
      have h16 : u 16 = .pointer (some ⟨P, 0, none⟩) := hd.get 0 (by kernel_rfl)
      clear hd
      simp only [h16] at hK
      go_simp
      exact hK.out (.pointer (some ⟨P, 0, none⟩)) rfl
    · show StepR _ _ _ _ _ _  _ -- 18
      unfold StepR
      intro q u w hj hd K hK
      have h17 : u 17 = .pointer (some ⟨P, 0, none⟩) := hd.get 1 (by kernel_rfl)
      clear hd
      simp only [h17] at hK
      go_simp
      exact hK.out (.pointer (some ⟨P, 0, none⟩)) rfl
    · show StepR _ _ _ _ _ _  _ -- 19
      unfold StepR
      intro q u w hj hd K hK
      have h18 : u 18 = .pointer (some ⟨P, 0, none⟩) := hd.get 2 (by kernel_rfl)
      clear hd
      simp only [h18] at hK
      have hcell := cell_chg Hla1.out hj
      go_simp
      exact hK.out _ rfl
    · show StepR _ _ _ _ _ _  _ -- 20
      unfold StepR
      intro q u w hj hd K hK
      clear hd
      go_simp
      exact hK.out (.pointer (some ⟨P, 0, none⟩)) rfl
    · show StepR _ _ _ _ _ _  _ -- 21
      unfold StepR
      intro q u w hj hd K hK
      clear hd
      obtain ⟨b0, b1, b2, b3, b4⟩ := (HBX.out.keep hj (fun f => f)).cells
      go_simp
      exact hK.out _ rfl
    · show StepW _ _ _ _ _ _ 0 _ -- 22
      unfold StepW
      intro u w hj hd K hK
      have h20 : u 20 = .pointer (some ⟨P, 0, none⟩) := hd.get 4 (by kernel_rfl)
      have h21 : u 21 = .agg #[.int .i64 0, .int .i64 row, .int .i64 p, .int .i64 n, .int .i64 xv] := hd.get 5 (by kernel_rfl)
      clear hd
      simp only [h20, h21] at hK
      go_simp
      go_at_call 49
      refine (ofS_any w B T P av bv its 0 row p n xv (HST.out.new hj)).mono ?_
      rintro z w2 ⟨rfl, c2⟩
      rw [HKK.out]
      exact hK.out _ w2 (chg_then hj c2) rfl
    · show StepR _ _ _ _ _ _  _ -- 23
      unfold StepR
      intro q u w hj hd K hK
      have h19 : u 19 = .slice (some ⟨la, 0, none⟩) its.length lac := hd.get 3 (by kernel_rfl)
      have h22 : u 22 = .int .i64 (k : Int) := hd.get 6 (by kernel_rfl)
      clear hd
      simp only [h19, h22] at hK
      go_simp
      exact hK.out (.pointer (some ⟨la, k, none⟩)) rfl
    · show StepR _ _ _ _ _ _  _ -- 24
      unfold StepR
      intro q u w hj hd K hK
      have h23 : u 23 = .pointer (some ⟨la, k, none⟩) := hd.get 7 (by kernel_rfl)
      clear hd
      simp only [h23] at hK
      have hcell := cell_chg Hla2.out hj
      go_simp
      exact hK.out _ rfl
  · intro u w1 hj hA K hK
    have e_ : u 24 = .pointer (some ⟨its[k].a, 0, none⟩) := hA.at 24 (by kernel_rfl)
    clear hA
    have HBX2 : Hid (Bx w1 b 0 row p n xv) := HBX.out.keep hj (fun f => f)
    have HST2 : Hid (Sts w1 B T P av bv its) := HST.out.new hj
    have HCA : Hid (Chg (fun _ => False) w w1) := chg_then HCW.out hj
    clear hj HBX HST Hla1 Hla2 HCW
    go_simp
    refine hK.out _ _ ?_
    clear hK
    generalize w1 = wA at *
    have HBX := HBX2
    have HST := HST2
    clear HBX2 HST2
    obtain ⟨b0, b1, b2, b3, b4⟩ := HBX.out.cells
    go_wp2_with fail
    refine ((HPS.out : PGet _ _ _ _ _ _ _ _ _ _ _ _) _ (S.keep HEN.out.1 HCA.out (fun f => f) (fun _ _ f => f)) (HST.out.st k hk) (Nat.le_trans HEN.out.2.2 HCA.out.size)).mono ?_
    rintro z w2 ⟨rfl, hD2, hS2, c2⟩
    have hb2 : Bx w2 b 0 row p n xv := HBX.out.keep c2 (fun f => by
      rcases f with f | f
      · obtain ⟨cs, hcs⟩ := S.blk (S.keep HEN.out.1 HCA.out (fun f => f) (fun _ _ f => f)); rw [← f] at hcs; exact ty_ne hcs HBX.out.blk (by decide)
      · obtain ⟨cs, hcs⟩ := owns_blk (HST.out.st k hk).own f; exact ty_ne hcs HBX.out.blk (by decide))
    have HD2 : Hid (Dec w2 B a v bs d') := hD2
    have HS2 : Hid (Sts w2 B T P av bv (its.set k (its[k].to xs'))) := HST.out.put k hk c2 (fun z f => by
      rcases f with f | f
      · exact .inr (.inl (by rw [f]; exact HEN.out.2.1))
      · exact .inr (.inr f)) xs' hS2 HOK.out.1 HOK.out.2
    have HC2 : Hid (Chg (Fd a its[k].v) w w2) := (HCA.out.mono (fun _ f => f.elim)).trans c2 (fun z f => .inl f)
    obtain ⟨d0, d1, d2, d3, d4⟩ := hb2.cells
    clear hD2 hS2 c2 b0 b1 b2 b3 b4 hb2
    go_wp2
    go_ret
    exact ⟨rfl, HS2.out, HD2.out, HC2.out⟩

set_option maxHeartbeats 8000000 in
set_option maxRecDepth 100000 in
theorem got_1 {Dec : World → Nat → Nat → Value → List Nat → Rc.D → Prop} (S : DecSpec Dec) (w : World) (B T P : Nat) (av bv : Value) (its : List It) (a : Nat) (v : Value) (bs : List Nat) (d : Rc.D) (row p n xv : Int) (k : Nat) (hk : k < its.length) (hkk : ofN its.length row = k) (h : Sts w B T P av bv its) (hD : Dec w B a v bs d) (hF : T ≤ a) (hB : B ≤ w.heap.size) (d' : Rc.D) (xs' : List Int) (hP : PGet Dec 53 #[.pointer (some ⟨a, 0, none⟩), .pointer (some ⟨its[k].a, 0, none⟩), .int .i64 p, .int .i64 n] B a v its[k] bs d (.tuple #[.int .i64 xv, .int .i64 0]) d' xs') (hI : In31 xs') (hl : xs'.length = its[k].xs.length) :
    Calls Try.prog 25 #[.pointer (some ⟨P, 0, none⟩), .pointer (some ⟨a, 0, none⟩), .agg #[.int .i64 1, .int .i64 row, .int .i64 p, .int .i64 n, .int .i64 xv]] w fun z w' => z = .returned (.bool true) ∧ Sts w' B T P av bv (its.set k (its[k].to xs')) ∧ Dec w' B a v bs d' ∧ Chg (Fd a its[k].v) w w' := by
  have HPS : Hid (PGet Dec 53 #[.pointer (some ⟨a, 0, none⟩), .pointer (some ⟨its[k].a, 0, none⟩), .int .i64 p, .int .i64 n] B a v its[k] bs d (.tuple #[.int .i64 xv, .int .i64 0]) d' xs') := hP
  have HOK : Hid (In31 xs' ∧ xs'.length = its[k].xs.length) := ⟨hI, hl⟩
  have HEN : Hid (Dec w B a v bs d ∧ T ≤ a ∧ B ≤ w.heap.size) := ⟨hD, hF, hB⟩
  clear hP hI hl hD hF hB
  have HKK : Hid (ofN its.length row = k) := hkk
  obtain ⟨la, lac, hav, hlac, hga⟩ := h.a_at (by omega)
  have cw := chg_one w (.cells #[.int .i64 1, .int .i64 row, .int .i64 p, .int .i64 n, .int .i64 xv] 50)
  have HCW : Hid (Chg (fun _ => False) w (w.alloc (.cells #[.int .i64 1, .int .i64 row, .int .i64 p, .int .i64 n, .int .i64 xv] 50))) := cw
  have HBX : Hid (Bx (w.alloc (.cells #[.int .i64 1, .int .i64 row, .int .i64 p, .int .i64 n, .int .i64 xv] 50)) w.heap.size 1 row p n xv) := ⟨heap_alloc_last w _⟩
  have HST : Hid (Sts (w.alloc (.cells #[.int .i64 1, .int .i64 row, .int .i64 p, .int .i64 n, .int .i64 xv] 50)) B T P av bv its) := h.new cw
  have hpa := cell0 h.pair
  have hlaw := hga k hk
  rw [hav] at hpa
  have Hla1 : Hid ((w.alloc (.cells #[.int .i64 1, .int .i64 row, .int .i64 p, .int .i64 n, .int .i64 xv] 50)).cell? ⟨P, 0, none⟩ = some (.slice (some ⟨la, 0, none⟩) its.length lac)) := cell_chg hpa cw
  have Hla2 : Hid ((w.alloc (.cells #[.int .i64 1, .int .i64 row, .int .i64 p, .int .i64 n, .int .i64 xv] 50)).cell? ⟨la, k, none⟩ = some (.pointer (some ⟨its[k].a, 0, none⟩))) := cell_chg hlaw cw
  have hkL : (k : Int) < (its.length : Int) := by omega
  clear hkk h hav hga cw hlaw hpa
  go_enter Try.func25, Try.ntmps25
  go_wp2_with fail
  generalize w.alloc (.cells #[.int .i64 1, .int .i64 row, .int .i64 p, .int .i64 n, .int .i64 xv] 50) = wB at *
  obtain ⟨b, hb⟩ : ∃ b, w.heap.size = b := ⟨_, rfl⟩
  rw [hb] at HBX ⊢
  clear hb
  refine wp_region_phase (mk := fun u => #[_, _, _, _, _, _, _, _, _, _, _, _, _, _, _, _, u 16, u 17, u 18, u 19, u 20, u 21, u 22, u 23, u 24, _, _, _, _, _, _, _, _, _, _, _, _, _, _, _, _, _, _, _, _, _, _, _, _, _, _, _, _, _, _, _, _, _, _, _, _, _, _, _, _, _, _, _, _, _, _, _, _, _, _, _, _, _, _, _, _, _, _, _, _, _, _, _, _, _, _, _, _, _, _, _, _, _, _, _, _, _, _, _, _, _, _, _, _, _]) (G := lookG [(16, .pointer (some ⟨P, 0, none⟩)), (17, .pointer (some ⟨P, 0, none⟩)), (18, .pointer (some ⟨P, 0, none⟩)), (19, .slice (some ⟨la, 0, none⟩) its.length lac), (20, .pointer (some ⟨P, 0, none⟩)), (21, .agg #[.int .i64 1, .int .i64 row, .int .i64 p, .int .i64 n, .int .i64 xv]), (22, .int .i64 (k : Int)), (23, .pointer (some ⟨la, k, none⟩)), (24, .pointer (some ⟨its[k].a, 0, none⟩))]) (J := fun _ _ w => Chg (fun _ => False) wB w) [6] (fun _ => undef) rfl (by kernel_rfl) 9 _ rfl rfl (by kernel_rfl) (by kernel_rfl) (by kernel_rfl) (by decide) ?_ ?_ ?_ ?_ ?_
  · repeat (refine ⟨⟨_, rfl, fun _ _ => rfl⟩, ?_⟩)
    exact trivial
  · exact fun q u u2 w _ h => h
  · exact (Chg.refl _ wB).drew
  · refine ⟨?_, ?_, ?_, ?_, ?_, ?_, ?_, ?_, ?_, trivial⟩
    · show StepR _ _ _ _ _ _  _ -- 16
      unfold StepR
      intro q u w hj hd K hK
      clear hd
      go_simp
      exact hK.out (.pointer (some ⟨P, 0, none⟩)) rfl
    · show StepR _ _ _ _ _ _  _ -- 17
      unfold StepR
      intro q u w hj hd K hK
      have h16 : u 16 = .pointer (some ⟨P, 0, none⟩) := hd.get 0 (by kernel_rfl)
      clear hd
      simp only [h16] at hK
      go_simp
      exact hK.out (.pointer (some ⟨P, 0, none⟩)) rfl
    · show StepR _ _ _ _ _ _  _ -- 18
      unfold StepR
      intro q u w hj hd K hK
      have h17 : u 17 = .pointer (some ⟨P, 0, none⟩) := hd.get 1 (by kernel_rfl)
      clear hd
      simp only [h17] at hK
      go_simp
      exact hK.out (.pointer (some ⟨P, 0, none⟩)) rfl
    · show StepR _ _ _ _ _ _  _ -- 19
      unfold StepR
      intro q u w hj hd K hK
      have h18 : u 18 = .pointer (some ⟨P, 0, none⟩) := hd.get 2 (by kernel_rfl)
      clear hd
      simp only [h18] at hK
      have hcell := cell_chg Hla1.out hj
      go_simp
      exact hK.out _ rfl
    · show StepR _ _ _ _ _ _  _ -- 20
      unfold StepR
      intro q u w hj hd K hK
      clear hd
      go_simp
      exact hK.out (.pointer (some ⟨P, 0, none⟩)) rfl
    · show StepR _ _ _ _ _ _  _ -- 21
      unfold StepR
      intro q u w hj hd K hK
      clear hd
      obtain ⟨b0, b1, b2, b3, b4⟩ := (HBX.out.keep hj (fun f => f)).cells
      go_simp
      exact hK.out _ rfl
    · show StepW _ _ _ _ _ _ 0 _ -- 22
      unfold StepW
      intro u w hj hd K hK
      have h20 : u 20 = .pointer (some ⟨P, 0, none⟩) := hd.get 4 (by kernel_rfl)
      have h21 : u 21 = .agg #[.int .i64 1, .int .i64 row, .int .i64 p, .int .i64 n, .int .i64 xv] := hd.get 5 (by kernel_rfl)
      clear hd
      simp only [h20, h21] at hK
      go_simp
      go_at_call 49
      refine (ofS_any w B T P av bv its 1 row p n xv (HST.out.new hj)).mono ?_
      rintro z w2 ⟨rfl, c2⟩
      rw [HKK.out]
      exact hK.out _ w2 (chg_then hj c2) rfl
    · show StepR _ _ _ _ _ _  _ -- 23
      unfold StepR
      intro q u w hj hd K hK
      have h19 : u 19 = .slice (some ⟨la, 0, none⟩) its.length lac := hd.get 3 (by kernel_rfl)
      have h22 : u 22 = .int .i64 (k : Int) := hd.get 6 (by kernel_rfl)
      clear hd
      simp only [h19, h22] at hK
      go_simp
      exact hK.out (.pointer (some ⟨la, k, none⟩)) rfl
    · show StepR _ _ _ _ _ _  _ -- 24
      unfold StepR
      intro q u w hj hd K hK
      have h23 : u 23 = .pointer (some ⟨la, k, none⟩) := hd.get 7 (by kernel_rfl)
      clear hd
      simp only [h23] at hK
      have hcell := cell_chg Hla2.out hj
      go_simp
      exact hK.out _ rfl
  · intro u w1 hj hA K hK
    have e_ : u 24 = .pointer (some ⟨its[k].a, 0, none⟩) := hA.at 24 (by kernel_rfl)
    clear hA
    have HBX2 : Hid (Bx w1 b 1 row p n xv) := HBX.out.keep hj (fun f => f)
    have HST2 : Hid (Sts w1 B T P av bv its) := HST.out.new hj
    have HCA : Hid (Chg (fun _ => False) w w1) := chg_then HCW.out hj
    clear hj HBX HST Hla1 Hla2 HCW
    go_simp
    refine hK.out _ _ ?_
    clear hK
    generalize w1 = wA at *
    have HBX := HBX2
    have HST := HST2
    clear HBX2 HST2
    obtain ⟨b0, b1, b2, b3, b4⟩ := HBX.out.cells
    go_wp2_with fail
    refine ((HPS.out : PGet _ _ _ _ _ _ _ _ _ _ _ _) _ (S.keep HEN.out.1 HCA.out (fun f => f) (fun _ _ f => f)) (HST.out.st k hk) (Nat.le_trans HEN.out.2.2 HCA.out.size)).mono ?_
    rintro z w2 ⟨rfl, hD2, hS2, c2⟩
    have hb2 : Bx w2 b 1 row p n xv := HBX.out.keep c2 (fun f => by
      rcases f with f | f
      · obtain ⟨cs, hcs⟩ := S.blk (S.keep HEN.out.1 HCA.out (fun f => f) (fun _ _ f => f)); rw [← f] at hcs; exact ty_ne hcs HBX.out.blk (by decide)
      · obtain ⟨cs, hcs⟩ := owns_blk (HST.out.st k hk).own f; exact ty_ne hcs HBX.out.blk (by decide))
    have HD2 : Hid (Dec w2 B a v bs d') := hD2
    have HS2 : Hid (Sts w2 B T P av bv (its.set k (its[k].to xs'))) := HST.out.put k hk c2 (fun z f => by
      rcases f with f | f
      · exact .inr (.inl (by rw [f]; exact HEN.out.2.1))
      · exact .inr (.inr f)) xs' hS2 HOK.out.1 HOK.out.2
    have HC2 : Hid (Chg (Fd a its[k].v) w w2) := (HCA.out.mono (fun _ f => f.elim)).trans c2 (fun z f => .inl f)
    obtain ⟨d0, d1, d2, d3, d4⟩ := hb2.cells
    clear hD2 hS2 c2 b0 b1 b2 b3 b4 hb2
    go_wp2
    go_ret
    exact ⟨rfl, HS2.out, HD2.out, HC2.out⟩

set_option maxHeartbeats 8000000 in
set_option maxRecDepth 100000 in
theorem got_3 {Dec : World → Nat → Nat → Value → List Nat → Rc.D → Prop} (S : DecSpec Dec) (w : World) (B T P : Nat) (av bv : Value) (its : List It) (a : Nat) (v : Value) (bs : List Nat) (d : Rc.D) (row p n xv : Int) (k : Nat) (hk : k < its.length) (hkk : ofN its.length row = k) (h : Sts w B T P av bv its) (hD : Dec w B a v bs d) (hF : T ≤ a) (hB : B ≤ w.heap.size) (d' : Rc.D) (xs' : List Int) (hP : PGet Dec 54 #[.pointer (some ⟨a, 0, none⟩), .pointer (some ⟨its[k].a, 0, none⟩), .int .i64 p] B a v its[k] bs d (.tuple #[.int .i64 (bitN xv), .int .i64 0]) d' xs') (hI : In31 xs') (hl : xs'.length = its[k].xs.length) :
    Calls Try.prog 25 #[.pointer (some ⟨P, 0, none⟩), .pointer (some ⟨a, 0, none⟩), .agg #[.int .i64 3, .int .i64 row, .int .i64 p, .int .i64 n, .int .i64 xv]] w fun z w' => z = .returned (.bool true) ∧ Sts w' B T P av bv (its.set k (its[k].to xs')) ∧ Dec w' B a v bs d' ∧ Chg (Fd a its[k].v) w w' := by
  have HPS : Hid (PGet Dec 54 #[.pointer (some ⟨a, 0, none⟩), .pointer (some ⟨its[k].a, 0, none⟩), .int .i64 p] B a v its[k] bs d (.tuple #[.int .i64 (bitN xv), .int .i64 0]) d' xs') := hP
  have HOK : Hid (In31 xs' ∧ xs'.length = its[k].xs.length) := ⟨hI, hl⟩
  have HEN : Hid (Dec w B a v bs d ∧ T ≤ a ∧ B ≤ w.heap.size) := ⟨hD, hF, hB⟩
  clear hP hI hl hD hF hB
  have HKK : Hid (ofN its.length row = k) := hkk
  obtain ⟨la, lac, hav, hlac, hga⟩ := h.a_at (by omega)
  have cw := chg_one w (.cells #[.int .i64 3, .int .i64 row, .int .i64 p, .int .i64 n, .int .i64 xv] 50)
  have HCW : Hid (Chg (fun _ => False) w (w.alloc (.cells #[.int .i64 3, .int .i64 row, .int .i64 p, .int .i64 n, .int .i64 xv] 50))) := cw
  have HBX : Hid (Bx (w.alloc (.cells #[.int .i64 3, .int .i64 row, .int .i64 p, .int .i64 n, .int .i64 xv] 50)) w.heap.size 3 row p n xv) := ⟨heap_alloc_last w _⟩
  have HST : Hid (Sts (w.alloc (.cells #[.int .i64 3, .int .i64 row, .int .i64 p, .int .i64 n, .int .i64 xv] 50)) B T P av bv its) := h.new cw
  have hpa := cell0 h.pair
  have hlaw := hga k hk
  rw [hav] at hpa
  have Hla1 : Hid ((w.alloc (.cells #[.int .i64 3, .int .i64 row, .int .i64 p, .int .i64 n, .int .i64 xv] 50)).cell? ⟨P, 0, none⟩ = some (.slice (some ⟨la, 0, none⟩) its.length lac)) := cell_chg hpa cw
  have Hla2 : Hid ((w.alloc (.cells #[.int .i64 3, .int .i64 row, .int .i64 p, .int .i64 n, .int .i64 xv] 50)).cell? ⟨la, k, none⟩ = some (.pointer (some ⟨its[k].a, 0, none⟩))) := cell_chg hlaw cw
  have hkL : (k : Int) < (its.length : Int) := by omega
  clear hkk h hav hga cw hlaw hpa
  go_enter Try.func25, Try.ntmps25
  go_wp2_with fail
  generalize w.alloc (.cells #[.int .i64 3, .int .i64 row, .int .i64 p, .int .i64 n, .int .i64 xv] 50) = wB at *
  obtain ⟨b, hb⟩ : ∃ b, w.heap.size = b := ⟨_, rfl⟩
  rw [hb] at HBX ⊢
  clear hb
  refine wp_region_phase (mk := fun u => #[_, _, _, _, _, _, _, _, _, _, _, _, _, _, _, _, u 16, u 17, u 18, u 19, u 20, u 21, u 22, u 23, u 24, _, _, _, _, _, _, _, _, _, _, _, _, _, _, _, _, _, _, _, _, _, _, _, _, _, _, _, _, _, _, _, _, _, _, _, _, _, _, _, _, _, _, _, _, _, _, _, _, _, _, _, _, _, _, _, _, _, _, _, _, _, _, _, _, _, _, _, _, _, _, _, _, _, _, _, _, _, _, _, _, _, _, _, _, _]) (G := lookG [(16, .pointer (some ⟨P, 0, none⟩)), (17, .pointer (some ⟨P, 0, none⟩)), (18, .pointer (some ⟨P, 0, none⟩)), (19, .slice (some ⟨la, 0, none⟩) its.length lac), (20, .pointer (some ⟨P, 0, none⟩)), (21, .agg #[.int .i64 3, .int .i64 row, .int .i64 p, .int .i64 n, .int .i64 xv]), (22, .int .i64 (k : Int)), (23, .pointer (some ⟨la, k, none⟩)), (24, .pointer (some ⟨its[k].a, 0, none⟩))]) (J := fun _ _ w => Chg (fun _ => False) wB w) [6] (fun _ => undef) rfl (by kernel_rfl) 9 _ rfl rfl (by kernel_rfl) (by kernel_rfl) (by kernel_rfl) (by decide) ?_ ?_ ?_ ?_ ?_
  · repeat (refine ⟨⟨_, rfl, fun _ _ => rfl⟩, ?_⟩)
    exact trivial
  · exact fun q u u2 w _ h => h
  · exact (Chg.refl _ wB).drew
  · refine ⟨?_, ?_, ?_, ?_, ?_, ?_, ?_, ?_, ?_, trivial⟩
    · show StepR _ _ _ _ _ _  _ -- 16
      unfold StepR
      intro q u w hj hd K hK
      clear hd
      go_simp
      exact hK.out (.pointer (some ⟨P, 0, none⟩)) rfl
    · show StepR _ _ _ _ _ _  _ -- 17
      unfold StepR
      intro q u w hj hd K hK
      have h16 : u 16 = .pointer (some ⟨P, 0, none⟩) := hd.get 0 (by kernel_rfl)
      clear hd
      simp only [h16] at hK
      go_simp
      exact hK.out (.pointer (some ⟨P, 0, none⟩)) rfl
    · show StepR _ _ _ _ _ _  _ -- 18
      unfold StepR
      intro q u w hj hd K hK
      have h17 : u 17 = .pointer (some ⟨P, 0, none⟩) := hd.get 1 (by kernel_rfl)
      clear hd
      simp only [h17] at hK
      go_simp
      exact hK.out (.pointer (some ⟨P, 0, none⟩)) rfl
    · show StepR _ _ _ _ _ _  _ -- 19
      unfold StepR
      intro q u w hj hd K hK
      have h18 : u 18 = .pointer (some ⟨P, 0, none⟩) := hd.get 2 (by kernel_rfl)
      clear hd
      simp only [h18] at hK
      have hcell := cell_chg Hla1.out hj
      go_simp
      exact hK.out _ rfl
    · show StepR _ _ _ _ _ _  _ -- 20
      unfold StepR
      intro q u w hj hd K hK
      clear hd
      go_simp
      exact hK.out (.pointer (some ⟨P, 0, none⟩)) rfl
    · show StepR _ _ _ _ _ _  _ -- 21
      unfold StepR
      intro q u w hj hd K hK
      clear hd
      obtain ⟨b0, b1, b2, b3, b4⟩ := (HBX.out.keep hj (fun f => f)).cells
      go_simp
      exact hK.out _ rfl
    · show StepW _ _ _ _ _ _ 0 _ -- 22
      unfold StepW
      intro u w hj hd K hK
      have h20 : u 20 = .pointer (some ⟨P, 0, none⟩) := hd.get 4 (by kernel_rfl)
      have h21 : u 21 = .agg #[.int .i64 3, .int .i64 row, .int .i64 p, .int .i64 n, .int .i64 xv] := hd.get 5 (by kernel_rfl)
      clear hd
      simp only [h20, h21] at hK
      go_simp
      go_at_call 49
      refine (ofS_any w B T P av bv its 3 row p n xv (HST.out.new hj)).mono ?_
      rintro z w2 ⟨rfl, c2⟩
      rw [HKK.out]
      exact hK.out _ w2 (chg_then hj c2) rfl
    · show StepR _ _ _ _ _ _  _ -- 23
      unfold StepR
      intro q u w hj hd K hK
      have h19 : u 19 = .slice (some ⟨la, 0, none⟩) its.length lac := hd.get 3 (by kernel_rfl)
      have h22 : u 22 = .int .i64 (k : Int) := hd.get 6 (by kernel_rfl)
      clear hd
      simp only [h19, h22] at hK
      go_simp
      exact hK.out (.pointer (some ⟨la, k, none⟩)) rfl
    · show StepR _ _ _ _ _ _  _ -- 24
      unfold StepR
      intro q u w hj hd K hK
      have h23 : u 23 = .pointer (some ⟨la, k, none⟩) := hd.get 7 (by kernel_rfl)
      clear hd
      simp only [h23] at hK
      have hcell := cell_chg Hla2.out hj
      go_simp
      exact hK.out _ rfl
  · intro u w1 hj hA K hK
    have e_ : u 24 = .pointer (some ⟨its[k].a, 0, none⟩) := hA.at 24 (by kernel_rfl)
    clear hA
    have HBX2 : Hid (Bx w1 b 3 row p n xv) := HBX.out.keep hj (fun f => f)
    have HST2 : Hid (Sts w1 B T P av bv its) := HST.out.new hj
    have HCA : Hid (Chg (fun _ => False) w w1) := chg_then HCW.out hj
    clear hj HBX HST Hla1 Hla2 HCW
    go_simp
    refine hK.out _ _ ?_
    clear hK
    generalize w1 = wA at *
    have HBX := HBX2
    have HST := HST2
    clear HBX2 HST2
    obtain ⟨b0, b1, b2, b3, b4⟩ := HBX.out.cells
    go_wp2_with fail
    refine ((HPS.out : PGet _ _ _ _ _ _ _ _ _ _ _ _) _ (S.keep HEN.out.1 HCA.out (fun f => f) (fun _ _ f => f)) (HST.out.st k hk) (Nat.le_trans HEN.out.2.2 HCA.out.size)).mono ?_
    rintro z w2 ⟨rfl, hD2, hS2, c2⟩
    have hb2 : Bx w2 b 3 row p n xv := HBX.out.keep c2 (fun f => by
      rcases f with f | f
      · obtain ⟨cs, hcs⟩ := S.blk (S.keep HEN.out.1 HCA.out (fun f => f) (fun _ _ f => f)); rw [← f] at hcs; exact ty_ne hcs HBX.out.blk (by decide)
      · obtain ⟨cs, hcs⟩ := owns_blk (HST.out.st k hk).own f; exact ty_ne hcs HBX.out.blk (by decide))
    have HD2 : Hid (Dec w2 B a v bs d') := hD2
    have HS2 : Hid (Sts w2 B T P av bv (its.set k (its[k].to xs'))) := HST.out.put k hk c2 (fun z f => by
      rcases f with f | f
      · exact .inr (.inl (by rw [f]; exact HEN.out.2.1))
      · exact .inr (.inr f)) xs' hS2 HOK.out.1 HOK.out.2
    have HC2 : Hid (Chg (Fd a its[k].v) w w2) := (HCA.out.mono (fun _ f => f.elim)).trans c2 (fun z f => .inl f)
    obtain ⟨d0, d1, d2, d3, d4⟩ := hb2.cells
    clear hD2 hS2 c2 b0 b1 b2 b3 b4 hb2
    go_wp2_with fail
    refine (bit_fn xv _).mono ?_
    rintro z w3 ⟨rfl, rfl⟩
    generalize bitN xv = xb at *
    go_wp2
    go_ret
    exact ⟨rfl, HS2.out, HD2.out, HC2.out⟩

set_option maxHeartbeats 8000000 in
set_option maxRecDepth 100000 in
theorem got_4 {Dec : World → Nat → Nat → Value → List Nat → Rc.D → Prop} (S : DecSpec Dec) (w : World) (B T P : Nat) (av bv : Value) (its : List It) (a : Nat) (v : Value) (bs : List Nat) (d : Rc.D) (row p xv : Int) (N X : Nat) (hN : N ≤ 32) (hX : X ≤ 4294967295) (hxw : IntKind.u32.wrap xv = (X : Int)) (k : Nat) (hk : k < its.length) (hkk : ofN its.length row = k) (h : Sts w B T P av bv its) (hD : Dec w B a v bs d) (hF : T ≤ a) (hB : B ≤ w.heap.size) (d' : Rc.D) (xs' : List Int) (hP : PGet Dec 56 #[.pointer (some ⟨a, 0, none⟩), .int .i64 (N : Int)] B a v its[k] bs d (.tuple #[.int .u32 ((X % 2 ^ N : Nat) : Int), .int .i64 0]) d' xs') (hI : In31 xs') (hl : xs'.length = its[k].xs.length) :
    Calls Try.prog 25 #[.pointer (some ⟨P, 0, none⟩), .pointer (some ⟨a, 0, none⟩), .agg #[.int .i64 4, .int .i64 row, .int .i64 p, .int .i64 (N : Int), .int .i64 xv]] w fun z w' => z = .returned (.bool true) ∧ Sts w' B T P av bv (its.set k (its[k].to xs')) ∧ Dec w' B a v bs d' ∧ Chg (Fd a its[k].v) w w' := by
  have HPS : Hid (PGet Dec 56 #[.pointer (some ⟨a, 0, none⟩), .int .i64 (N : Int)] B a v its[k] bs d (.tuple #[.int .u32 ((X % 2 ^ N : Nat) : Int), .int .i64 0]) d' xs') := hP
  have HOK : Hid (In31 xs' ∧ xs'.length = its[k].xs.length) := ⟨hI, hl⟩
  have HEN : Hid (Dec w B a v bs d ∧ T ≤ a ∧ B ≤ w.heap.size) := ⟨hD, hF, hB⟩
  clear hP hI hl hD hF hB
  have HKK : Hid (ofN its.length row = k) := hkk
  obtain ⟨la, lac, hav, hlac, hga⟩ := h.a_at (by omega)
  have cw := chg_one w (.cells #[.int .i64 4, .int .i64 row, .int .i64 p, .int .i64 (N : Int), .int .i64 xv] 50)
  have HCW : Hid (Chg (fun _ => False) w (w.alloc (.cells #[.int .i64 4, .int .i64 row, .int .i64 p, .int .i64 (N : Int), .int .i64 xv] 50))) := cw
  have HBX : Hid (Bx (w.alloc (.cells #[.int .i64 4, .int .i64 row, .int .i64 p, .int .i64 (N : Int), .int .i64 xv] 50)) w.heap.size 4 row p (N : Int) xv) := ⟨heap_alloc_last w _⟩
  have HST : Hid (Sts (w.alloc (.cells #[.int .i64 4, .int .i64 row, .int .i64 p, .int .i64 (N : Int), .int .i64 xv] 50)) B T P av bv its) := h.new cw
  have hpa := cell0 h.pair
  have hlaw := hga k hk
  rw [hav] at hpa
  have Hla1 : Hid ((w.alloc (.cells #[.int .i64 4, .int .i64 row, .int .i64 p, .int .i64 (N : Int), .int .i64 xv] 50)).cell? ⟨P, 0, none⟩ = some (.slice (some ⟨la, 0, none⟩) its.length lac)) := cell_chg hpa cw
  have Hla2 : Hid ((w.alloc (.cells #[.int .i64 4, .int .i64 row, .int .i64 p, .int .i64 (N : Int), .int .i64 xv] 50)).cell? ⟨la, k, none⟩ = some (.pointer (some ⟨its[k].a, 0, none⟩))) := cell_chg hlaw cw
  have hkL : (k : Int) < (its.length : Int) := by omega
  clear hkk h hav hga cw hlaw hpa
  go_enter Try.func25, Try.ntmps25
  go_wp2_with fail
  generalize w.alloc (.cells #[.int .i64 4, .int .i64 row, .int .i64 p, .int .i64 (N : Int), .int .i64 xv] 50) = wB at *
  obtain ⟨b, hb⟩ : ∃ b, w.heap.size = b := ⟨_, rfl⟩
  rw [hb] at HBX ⊢
  clear hb
  refine wp_region_phase (mk := fun u => #[_, _, _, _, _, _, _, _, _, _, _, _, _, _, _, _, u 16, u 17, u 18, u 19, u 20, u 21, u 22, u 23, u 24, _, _, _, _, _, _, _, _, _, _, _, _, _, _, _, _, _, _, _, _, _, _, _, _, _, _, _, _, _, _, _, _, _, _, _, _, _, _, _, _, _, _, _, _, _, _, _, _, _, _, _, _, _, _, _, _, _, _, _, _, _, _, _, _, _, _, _, _, _, _, _, _, _, _, _, _, _, _, _, _, _, _, _, _, _]) (G := lookG [(16, .pointer (some ⟨P, 0, none⟩)), (17, .pointer (some ⟨P, 0, none⟩)), (18, .pointer (some ⟨P, 0, none⟩)), (19, .slice (some ⟨la, 0, none⟩) its.length lac), (20, .pointer (some ⟨P, 0, none⟩)), (21, .agg #[.int .i64 4, .int .i64 row, .int .i64 p, .int .i64 (N : Int), .int .i64 xv]), (22, .int .i64 (k : Int)), (23, .pointer (some ⟨la, k, none⟩)), (24, .pointer (some ⟨its[k].a, 0, none⟩))]) (J := fun _ _ w => Chg (fun _ => False) wB w) [6] (fun _ => undef) rfl (by kernel_rfl) 9 _ rfl rfl (by kernel_rfl) (by kernel_rfl) (by kernel_rfl) (by decide) ?_ ?_ ?_ ?_ ?_
  · repeat (refine ⟨⟨_, rfl, fun _ _ => rfl⟩, ?_⟩)
    exact trivial
  · exact fun q u u2 w _ h => h
  · exact (Chg.refl _ wB).drew
  · refine ⟨?_, ?_, ?_, ?_, ?_, ?_, ?_, ?_, ?_, trivial⟩
    · show StepR _ _ _ _ _ _  _ -- 16
      unfold StepR
      intro q u w hj hd K hK
      clear hd
      go_simp
      exact hK.out (.pointer (some ⟨P, 0, none⟩)) rfl
    · show StepR _ _ _ _ _ _  _ -- 17
      unfold StepR
      intro q u w hj hd K hK
      have h16 : u 16 = .pointer (some ⟨P, 0, none⟩) := hd.get 0 (by kernel_rfl)
      clear hd
      simp only [h16] at hK
      go_simp
      exact hK.out (.pointer (some ⟨P, 0, none⟩)) rfl
    · show StepR _ _ _ _ _ _  _ -- 18
      unfold StepR
      intro q u w hj hd K hK
      have h17 : u 17 = .pointer (some ⟨P, 0, none⟩) := hd.get 1 (by kernel_rfl)
      clear hd
      simp only [h17] at hK
      go_simp
      exact hK.out (.pointer (some ⟨P, 0, none⟩)) rfl
    · show StepR _ _ _ _ _ _  _ -- 19
      unfold StepR
      intro q u w hj hd K hK
      have h18 : u 18 = .pointer (some ⟨P, 0, none⟩) := hd.get 2 (by kernel_rfl)
      clear hd
      simp only [h18] at hK
      have hcell := cell_chg Hla1.out hj
      go_simp
      exact hK.out _ rfl
    · show StepR _ _ _ _ _ _  _ -- 20
      unfold StepR
      intro q u w hj hd K hK
      clear hd
      go_simp
      exact hK.out (.pointer (some ⟨P, 0, none⟩)) rfl
    · show StepR _ _ _ _ _ _  _ -- 21
      unfold StepR
      intro q u w hj hd K hK
      clear hd
      obtain ⟨b0, b1, b2, b3, b4⟩ := (HBX.out.keep hj (fun f => f)).cells
      go_simp
      exact hK.out _ rfl
    · show StepW _ _ _ _ _ _ 0 _ -- 22
      unfold StepW
      intro u w hj hd K hK
      have h20 : u 20 = .pointer (some ⟨P, 0, none⟩) := hd.get 4 (by kernel_rfl)
      have h21 : u 21 = .agg #[.int .i64 4, .int .i64 row, .int .i64 p, .int .i64 (N : Int), .int .i64 xv] := hd.get 5 (by kernel_rfl)
      clear hd
      simp only [h20, h21] at hK
      go_simp
      go_at_call 49
      refine (ofS_any w B T P av bv its 4 row p (N : Int) xv (HST.out.new hj)).mono ?_
      rintro z w2 ⟨rfl, c2⟩
      rw [HKK.out]
      exact hK.out _ w2 (chg_then hj c2) rfl
    · show StepR _ _ _ _ _ _  _ -- 23
      unfold StepR
      intro q u w hj hd K hK
      have h19 : u 19 = .slice (some ⟨la, 0, none⟩) its.length lac := hd.get 3 (by kernel_rfl)
      have h22 : u 22 = .int .i64 (k : Int) := hd.get 6 (by kernel_rfl)
      clear hd
      simp only [h19, h22] at hK
      go_simp
      exact hK.out (.pointer (some ⟨la, k, none⟩)) rfl
    · show StepR _ _ _ _ _ _  _ -- 24
      unfold StepR
      intro q u w hj hd K hK
      have h23 : u 23 = .pointer (some ⟨la, k, none⟩) := hd.get 7 (by kernel_rfl)
      clear hd
      simp only [h23] at hK
      have hcell := cell_chg Hla2.out hj
      go_simp
      exact hK.out _ rfl
  · intro u w1 hj hA K hK
    have e_ : u 24 = .pointer (some ⟨its[k].a, 0, none⟩) := hA.at 24 (by kernel_rfl)
    clear hA
    have HBX2 : Hid (Bx w1 b 4 row p (N : Int) xv) := HBX.out.keep hj (fun f => f)
    have HST2 : Hid (Sts w1 B T P av bv its) := HST.out.new hj
    have HCA : Hid (Chg (fun _ => False) w w1) := chg_then HCW.out hj
    clear hj HBX HST Hla1 Hla2 HCW
    go_simp
    refine hK.out _ _ ?_
    clear hK
    generalize w1 = wA at *
    have HBX := HBX2
    have HST := HST2
    clear HBX2 HST2
    obtain ⟨b0, b1, b2, b3, b4⟩ := HBX.out.cells
    go_wp2_with fail
    refine ((HPS.out : PGet _ _ _ _ _ _ _ _ _ _ _ _) _ (S.keep HEN.out.1 HCA.out (fun f => f) (fun _ _ f => f)) (HST.out.st k hk) (Nat.le_trans HEN.out.2.2 HCA.out.size)).mono ?_
    rintro z w2 ⟨rfl, hD2, hS2, c2⟩
    have hb2 : Bx w2 b 4 row p (N : Int) xv := HBX.out.keep c2 (fun f => by
      rcases f with f | f
      · obtain ⟨cs, hcs⟩ := S.blk (S.keep HEN.out.1 HCA.out (fun f => f) (fun _ _ f => f)); rw [← f] at hcs; exact ty_ne hcs HBX.out.blk (by decide)
      · obtain ⟨cs, hcs⟩ := owns_blk (HST.out.st k hk).own f; exact ty_ne hcs HBX.out.blk (by decide))
    have HD2 : Hid (Dec w2 B a v bs d') := hD2
    have HS2 : Hid (Sts w2 B T P av bv (its.set k (its[k].to xs'))) := HST.out.put k hk c2 (fun z f => by
      rcases f with f | f
      · exact .inr (.inl (by rw [f]; exact HEN.out.2.1))
      · exact .inr (.inr f)) xs' hS2 HOK.out.1 HOK.out.2
    have HC2 : Hid (Chg (Fd a its[k].v) w w2) := (HCA.out.mono (fun _ f => f.elim)).trans c2 (fun z f => .inl f)
    obtain ⟨d0, d1, d2, d3, d4⟩ := hb2.cells
    clear hD2 hS2 c2 b0 b1 b2 b3 b4 hb2
    obtain ⟨m, hm⟩ : ∃ m, X % 2 ^ N = m := ⟨_, rfl⟩
    rw [hm]
    have hsh : (X : Int) * 2 ^ (32 - N) % 4294967296 / 2 ^ (32 - N) = (m : Int) := by
      rw [← hm]
      exact shift_low X N hN
    clear hm
    go_wp2_with fail
    go_quiet (fail)
    go_wp2
    go_ret
    have cq := chg_drewN w2 nq
    exact ⟨rfl, HS2.out.new cq, S.keep HD2.out cq (fun f => f) (fun _ _ f => f), HC2.out.trans cq (fun _ f => f.elim)⟩
end Go.Proofs.Ytibgjpifmpljkaa
