/- The law's reads: a step of a decoder of both; of no statement by itself. -/
import Derived.Test.YtibgjpifmpljkaaRo
namespace Go.Proofs.Ytibgjpifmpljkaa
open Go.RowKit
set_option linter.unusedVariables false

set_option maxHeartbeats 8000000 in
set_option maxRecDepth 100000 in
theorem reads_0 {Dec : World → Nat → Nat → Value → List Nat → Rc.D → Prop} (S : DecSpec Dec) (w0 w : World) (P : Nat) (av bv : Value) (its : List It) (a r : Nat) (v y : Value) (bs : List Nat) (d : Rc.D) (row p n xv : Int) (k : Nat) (hk : k < its.length) (hkk : ofN its.length row = k) (h : Red Dec w0 w P av bv its a r v y bs d) (rv er : Int) (d' : Rc.D) (xs' : List Int) (hP : PGet Dec 52 #[.pointer (some ⟨a, 0, none⟩), .pointer (some ⟨its[k].a, 0, none⟩), .int .i64 p, .int .i64 n] w0.heap.size a v its[k] bs d (.tuple #[.int .i64 rv, .int .i64 er]) d' xs') (hR : RGet 61 #[.pointer (some ⟨r, 0, none⟩), .pointer (some ⟨its[k].r, 0, none⟩), .int .i64 p, .int .i64 n, .bool false] w0.heap.size r y its[k] bs d (.tuple #[.int .i64 rv, .int .i64 er]) d' xs') (hO : OkD bs d') (hI : In31 xs') (hl : xs'.length = its[k].xs.length) :
    Calls Try.prog 32 #[.pointer (some ⟨P, 0, none⟩), .pointer (some ⟨a, 0, none⟩), .pointer (some ⟨r, 0, none⟩), .agg #[.int .i64 0, .int .i64 row, .int .i64 p, .int .i64 n, .int .i64 xv]] w fun z w' => z = .returned (.bool true) ∧ Red Dec w0 w' P av bv (its.set k (its[k].to xs')) a r v y bs d' := by
  have HPS : Hid (PGet Dec 52 #[.pointer (some ⟨a, 0, none⟩), .pointer (some ⟨its[k].a, 0, none⟩), .int .i64 p, .int .i64 n] w0.heap.size a v its[k] bs d (.tuple #[.int .i64 rv, .int .i64 er]) d' xs') := hP
  have HRS : Hid (RGet 61 #[.pointer (some ⟨r, 0, none⟩), .pointer (some ⟨its[k].r, 0, none⟩), .int .i64 p, .int .i64 n, .bool false] w0.heap.size r y its[k] bs d (.tuple #[.int .i64 rv, .int .i64 er]) d' xs') := hR
  have HOK : Hid (OkD bs d' ∧ In31 xs' ∧ xs'.length = its[k].xs.length) := ⟨hO, hI, hl⟩
  clear hP hR hO hI hl
  have HKK : Hid (ofN its.length row = k) := hkk
  have HCW : Hid (Red Dec w0 w P av bv its a r v y bs d) := h
  obtain ⟨la, lac, hav, hlac, hga⟩ := h.play.a_at (by omega)
  obtain ⟨lb, lbc, hbv, hlbc, hgb⟩ := h.play.b_at (by omega)
  have cw := chg_one w (.cells #[.int .i64 0, .int .i64 row, .int .i64 p, .int .i64 n, .int .i64 xv] 50)
  have HBX : Hid (Bx (w.alloc (.cells #[.int .i64 0, .int .i64 row, .int .i64 p, .int .i64 n, .int .i64 xv] 50)) w.heap.size 0 row p n xv) := ⟨heap_alloc_last w _⟩
  have HCD : Hid (Red Dec w0 (w.alloc (.cells #[.int .i64 0, .int .i64 row, .int .i64 p, .int .i64 n, .int .i64 xv] 50)) P av bv its a r v y bs d) := h.new S cw
  have hlaw := hga k hk
  have hlbw := hgb k hk
  have hpa := cell0 h.play.pair
  have hpb := cell1 h.play.pair
  rw [hav] at hpa
  rw [hbv] at hpb
  have Hla1 : Hid ((w.alloc (.cells #[.int .i64 0, .int .i64 row, .int .i64 p, .int .i64 n, .int .i64 xv] 50)).cell? ⟨P, 0, none⟩ = some (.slice (some ⟨la, 0, none⟩) its.length lac)) := cell_chg hpa cw
  have Hlb1 : Hid ((w.alloc (.cells #[.int .i64 0, .int .i64 row, .int .i64 p, .int .i64 n, .int .i64 xv] 50)).cell? ⟨P, 1, none⟩ = some (.slice (some ⟨lb, 0, none⟩) its.length lbc)) := cell_chg hpb cw
  have Hla2 : Hid ((w.alloc (.cells #[.int .i64 0, .int .i64 row, .int .i64 p, .int .i64 n, .int .i64 xv] 50)).cell? ⟨la, k, none⟩ = some (.pointer (some ⟨its[k].a, 0, none⟩))) := cell_chg hlaw cw
  have Hlb2 : Hid ((w.alloc (.cells #[.int .i64 0, .int .i64 row, .int .i64 p, .int .i64 n, .int .i64 xv] 50)).cell? ⟨lb, k, none⟩ = some (.pointer (some ⟨its[k].r, 0, none⟩))) := cell_chg hlbw cw
  have hkL : (k : Int) < (its.length : Int) := by omega
  clear hkk h hav hbv hga hgb cw hlaw hlbw hpa hpb
  go_enter Try.func32, Try.ntmps32
  go_wp2_with fail
  generalize w.alloc (.cells #[.int .i64 0, .int .i64 row, .int .i64 p, .int .i64 n, .int .i64 xv] 50) = wB at *
  obtain ⟨b, hb⟩ : ∃ b, w.heap.size = b := ⟨_, rfl⟩
  have HBL : Hid (w.heap.size = b) := hb
  rw [hb] at HBX ⊢
  clear hb
  refine wp_region_phase (mk := fun u => #[_, _, _, _, _, _, _, _, _, _, _, _, _, _, _, _, _, _, _, u 19, u 20, u 21, u 22, u 23, u 24, u 25, u 26, u 27, _, _, _, _, _, _, _, _, _, _, _, _, _, _, _, _, _, _, _, _, _, _, _, _, _, _, _, _, _, _, _, _, _, _, _, _, _, _, _, _, _, _, _, _, _, _, _, _, _, _, _, _, _, _, _, _, _, _, _, _, _, _, _, _, _, _, _, _, _, _, _, _, _, _, _, _, _, _, _, _, _, _, _, _, _, _, _, _, _, _, _, _, _, _, _, _, _, _, _, _, _, _, _, _, _]) (G := lookG [(19, .pointer (some ⟨P, 0, none⟩)), (20, .pointer (some ⟨P, 0, none⟩)), (21, .pointer (some ⟨P, 0, none⟩)), (22, .slice (some ⟨la, 0, none⟩) its.length lac), (23, .pointer (some ⟨P, 0, none⟩)), (24, .agg #[.int .i64 0, .int .i64 row, .int .i64 p, .int .i64 n, .int .i64 xv]), (25, .int .i64 (k : Int)), (26, .pointer (some ⟨la, k, none⟩)), (27, .pointer (some ⟨its[k].a, 0, none⟩))]) (J := fun _ _ w => Chg (fun _ => False) wB w) [6] (fun _ => undef) rfl (by kernel_rfl) 9 _ rfl rfl (by kernel_rfl) (by kernel_rfl) (by kernel_rfl) (by decide) ?_ ?_ ?_ ?_ ?_
  · repeat (refine ⟨⟨_, rfl, fun _ _ => rfl⟩, ?_⟩)
    exact trivial
  · exact fun q u u2 w _ h => h
  · exact (Chg.refl _ wB).drew
  · refine ⟨?_, ?_, ?_, ?_, ?_, ?_, ?_, ?_, ?_, trivial⟩
    · show StepR _ _ _ _ _ _  _ -- 19
      unfold StepR
      intro q u w hj hd K hK
      clear hd
      go_simp
      exact hK.out (.pointer (some ⟨P, 0, none⟩)) rfl
    · show StepR _ _ _ _ _ _  _ -- 20
      unfold StepR
      intro q u w hj hd K hK
      have h19 : u 19 = .pointer (some ⟨P, 0, none⟩) := hd.get 0 (by kernel_rfl)
      clear hd
      simp only [h19] at hK
      go_simp
      exact hK.out (.pointer (some ⟨P, 0, none⟩)) rfl
    · show StepR _ _ _ _ _ _  _ -- 21
      unfold StepR
      intro q u w hj hd K hK
      have h20 : u 20 = .pointer (some ⟨P, 0, none⟩) := hd.get 1 (by kernel_rfl)
      clear hd
      simp only [h20] at hK
      go_simp
      exact hK.out (.pointer (some ⟨P, 0, none⟩)) rfl
    · show StepR _ _ _ _ _ _  _ -- 22
      unfold StepR
      intro q u w hj hd K hK
      have h21 : u 21 = .pointer (some ⟨P, 0, none⟩) := hd.get 2 (by kernel_rfl)
      clear hd
      simp only [h21] at hK
      have hcell := cell_chg Hla1.out hj
      go_simp
      exact hK.out _ rfl
    · show StepR _ _ _ _ _ _  _ -- 23
      unfold StepR
      intro q u w hj hd K hK
      clear hd
      go_simp
      exact hK.out (.pointer (some ⟨P, 0, none⟩)) rfl
    · show StepR _ _ _ _ _ _  _ -- 24
      unfold StepR
      intro q u w hj hd K hK
      clear hd
      obtain ⟨b0, b1, b2, b3, b4⟩ := (HBX.out.keep hj (fun f => f)).cells
      go_simp
      exact hK.out _ rfl
    · show StepW _ _ _ _ _ _ 0 _ -- 25
      unfold StepW
      intro u w hj hd K hK
      have h23 : u 23 = .pointer (some ⟨P, 0, none⟩) := hd.get 4 (by kernel_rfl)
      have h24 : u 24 = .agg #[.int .i64 0, .int .i64 row, .int .i64 p, .int .i64 n, .int .i64 xv] := hd.get 5 (by kernel_rfl)
      clear hd
      simp only [h23, h24] at hK
      go_simp
      go_at_call 49
      refine (of_any w0 w P av bv its 0 row p n xv (HCD.out.play.new hj)).mono ?_
      rintro z w2 ⟨rfl, c2⟩
      rw [HKK.out]
      exact hK.out _ w2 (chg_then hj c2) rfl
    · show StepR _ _ _ _ _ _  _ -- 26
      unfold StepR
      intro q u w hj hd K hK
      have h22 : u 22 = .slice (some ⟨la, 0, none⟩) its.length lac := hd.get 3 (by kernel_rfl)
      have h25 : u 25 = .int .i64 (k : Int) := hd.get 6 (by kernel_rfl)
      clear hd
      simp only [h22, h25] at hK
      go_simp
      exact hK.out (.pointer (some ⟨la, k, none⟩)) rfl
    · show StepR _ _ _ _ _ _  _ -- 27
      unfold StepR
      intro q u w hj hd K hK
      have h26 : u 26 = .pointer (some ⟨la, k, none⟩) := hd.get 7 (by kernel_rfl)
      clear hd
      simp only [h26] at hK
      have hcell := cell_chg Hla2.out hj
      go_simp
      exact hK.out _ rfl
  · intro u w1 hj hA K hK
    have e27 : u 27 = .pointer (some ⟨its[k].a, 0, none⟩) := hA.at 27 (by kernel_rfl)
    clear hA
    have HBX2 : Hid (Bx w1 b 0 row p n xv) := HBX.out.keep hj (fun f => f)
    have HCD2 : Hid (Red Dec w0 w1 P av bv its a r v y bs d) := HCD.out.new S hj
    have Hlb1 : Hid (w1.cell? ⟨P, 1, none⟩ = some (.slice (some ⟨lb, 0, none⟩) its.length lbc)) := cell_chg Hlb1.out hj
    have Hlb2 : Hid (w1.cell? ⟨lb, k, none⟩ = some (.pointer (some ⟨its[k].r, 0, none⟩))) := cell_chg Hlb2.out hj
    clear hj HBX HCD Hla1 Hla2
    go_simp
    refine hK.out _ _ ?_
    clear hK
    generalize w1 = wB at *
    have HBX := HBX2
    have HCD := HCD2
    clear HBX2 HCD2
    go_wp2_with fail
    refine wp_region_phase (mk := fun u => #[_, _, _, _, _, _, _, _, _, _, _, _, _, _, _, _, _, _, _, _, _, _, _, _, _, _, _, _, u 28, u 29, u 30, u 31, u 32, u 33, u 34, u 35, u 36, _, _, _, _, _, _, _, _, _, _, _, _, _, _, _, _, _, _, _, _, _, _, _, _, _, _, _, _, _, _, _, _, _, _, _, _, _, _, _, _, _, _, _, _, _, _, _, _, _, _, _, _, _, _, _, _, _, _, _, _, _, _, _, _, _, _, _, _, _, _, _, _, _, _, _, _, _, _, _, _, _, _, _, _, _, _, _, _, _, _, _, _, _, _, _, _]) (G := lookG [(28, .pointer (some ⟨P, 0, none⟩)), (29, .pointer (some ⟨P, 0, none⟩)), (30, .pointer (some ⟨P, 1, none⟩)), (31, .slice (some ⟨lb, 0, none⟩) its.length lbc), (32, .pointer (some ⟨P, 0, none⟩)), (33, .agg #[.int .i64 0, .int .i64 row, .int .i64 p, .int .i64 n, .int .i64 xv]), (34, .int .i64 (k : Int)), (35, .pointer (some ⟨lb, k, none⟩)), (36, .pointer (some ⟨its[k].r, 0, none⟩))]) (J := fun _ _ w => Chg (fun _ => False) wB w) [6] (fun _ => undef) rfl (by kernel_rfl) 9 _ rfl rfl (by kernel_rfl) (by kernel_rfl) (by kernel_rfl) (by decide) ?_ ?_ ?_ ?_ ?_
    · repeat (refine ⟨⟨_, rfl, fun _ _ => rfl⟩, ?_⟩)
      exact trivial
    · exact fun q u u2 w _ h => h
    · exact (Chg.refl _ wB).drew
    · refine ⟨?_, ?_, ?_, ?_, ?_, ?_, ?_, ?_, ?_, trivial⟩
      · show StepR _ _ _ _ _ _  _ -- 28
        unfold StepR
        intro q u w hj hd K hK
        clear hd
        go_simp
        exact hK.out (.pointer (some ⟨P, 0, none⟩)) rfl
      · show StepR _ _ _ _ _ _  _ -- 29
        unfold StepR
        intro q u w hj hd K hK
        have h28 : u 28 = .pointer (some ⟨P, 0, none⟩) := hd.get 0 (by kernel_rfl)
        clear hd
        simp only [h28] at hK
        go_simp
        exact hK.out (.pointer (some ⟨P, 0, none⟩)) rfl
      · show StepR _ _ _ _ _ _  _ -- 30
        unfold StepR
        intro q u w hj hd K hK
        have h29 : u 29 = .pointer (some ⟨P, 0, none⟩) := hd.get 1 (by kernel_rfl)
        clear hd
        simp only [h29] at hK
        go_simp
        exact hK.out (.pointer (some ⟨P, 1, none⟩)) rfl
      · show StepR _ _ _ _ _ _  _ -- 31
        unfold StepR
        intro q u w hj hd K hK
        have h30 : u 30 = .pointer (some ⟨P, 1, none⟩) := hd.get 2 (by kernel_rfl)
        clear hd
        simp only [h30] at hK
        have hcell := cell_chg Hlb1.out hj
        go_simp
        exact hK.out _ rfl
      · show StepR _ _ _ _ _ _  _ -- 32
        unfold StepR
        intro q u w hj hd K hK
        clear hd
        go_simp
        exact hK.out (.pointer (some ⟨P, 0, none⟩)) rfl
      · show StepR _ _ _ _ _ _  _ -- 33
        unfold StepR
        intro q u w hj hd K hK
        clear hd
        obtain ⟨b0, b1, b2, b3, b4⟩ := (HBX.out.keep hj (fun f => f)).cells
        go_simp
        exact hK.out _ rfl
      · show StepW _ _ _ _ _ _ 0 _ -- 34
        unfold StepW
        intro u w hj hd K hK
        have h32 : u 32 = .pointer (some ⟨P, 0, none⟩) := hd.get 4 (by kernel_rfl)
        have h33 : u 33 = .agg #[.int .i64 0, .int .i64 row, .int .i64 p, .int .i64 n, .int .i64 xv] := hd.get 5 (by kernel_rfl)
        clear hd
        simp only [h32, h33] at hK
        go_simp
        go_at_call 49
        refine (of_any w0 w P av bv its 0 row p n xv (HCD.out.play.new hj)).mono ?_
        rintro z w2 ⟨rfl, c2⟩
        rw [HKK.out]
        exact hK.out _ w2 (chg_then hj c2) rfl
      · show StepR _ _ _ _ _ _  _ -- 35
        unfold StepR
        intro q u w hj hd K hK
        have h31 : u 31 = .slice (some ⟨lb, 0, none⟩) its.length lbc := hd.get 3 (by kernel_rfl)
        have h34 : u 34 = .int .i64 (k : Int) := hd.get 6 (by kernel_rfl)
        clear hd
        simp only [h31, h34] at hK
        go_simp
        exact hK.out (.pointer (some ⟨lb, k, none⟩)) rfl
      · show StepR _ _ _ _ _ _  _ -- 36
        unfold StepR
        intro q u w hj hd K hK
        have h35 : u 35 = .pointer (some ⟨lb, k, none⟩) := hd.get 7 (by kernel_rfl)
        clear hd
        simp only [h35] at hK
        have hcell := cell_chg Hlb2.out hj
        go_simp
        exact hK.out _ rfl
    · intro u w1 hj hA K hK
      have e36 : u 36 = .pointer (some ⟨its[k].r, 0, none⟩) := hA.at 36 (by kernel_rfl)
      clear hA
      have HBX2 : Hid (Bx w1 b 0 row p n xv) := HBX.out.keep hj (fun f => f)
      have HCD2 : Hid (Red Dec w0 w1 P av bv its a r v y bs d) := HCD.out.new S hj
      clear hj HBX HCD Hlb1 Hlb2
      go_simp
      refine hK.out _ _ ?_
      clear hK
      generalize w1 = wA at *
      have HBX := HBX2
      have HCD := HCD2
      clear HBX2 HCD2
      obtain ⟨b0, b1, b2, b3, b4⟩ := HBX.out.cells
      go_wp2_with fail
      refine ((HPS.out : PGet _ _ _ _ _ _ _ _ _ _ _ _) _ HCD.out.dec (HCD.out.play.good k hk).st HCD.out.play.chg.size).mono ?_
      rintro z w2 ⟨rfl, hD, hS, c2⟩
      have HD : Hid (Dec w2 w0.heap.size a v bs d') := hD
      have HS : Hid (St w2 w0.heap.size its[k].a its[k].v xs') := hS
      have HC2 : Hid (Chg (Fd a its[k].v) wA w2) := c2
      have hb2 : Bx w2 b 0 row p n xv := HBX.out.keep c2 (fun f => by
        rcases f with f | f
        · obtain ⟨cs, hcs⟩ := S.blk HCD.out.dec; rw [← f] at hcs; exact ty_ne hcs HBX.out.blk (by decide)
        · obtain ⟨cs, hcs⟩ := (HCD.out.play.good k hk).vb f; exact ty_ne hcs HBX.out.blk (by decide))
      obtain ⟨d0, d1, d2, d3, d4⟩ := hb2.cells
      clear hb2 hD hS c2 b0 b1 b2 b3 b4
      go_wp2_with fail
      refine ((HRS.out : RGet _ _ _ _ _ _ _ _ _ _ _) _ (HCD.out.side S k hk HC2.out).1 (HCD.out.side S k hk HC2.out).2 (Nat.le_trans HCD.out.play.chg.size HC2.out.size)).mono ?_
      rintro z w3 ⟨rfl, hR3, hT3, c3⟩
      have HE : Hid (Red Dec w0 w3 P av bv (its.set k (its[k].to xs')) a r v y bs d') := HCD.out.done S k hk xs' HC2.out HD.out HS.out c3 hR3 hT3 HOK.out.1 HOK.out.2.1 HOK.out.2.2
      clear hR3 hT3 c3 d0 d1 d2 d3 d4
      go_wp2
      go_ret
      exact ⟨rfl, HE.out⟩

set_option maxHeartbeats 8000000 in
set_option maxRecDepth 100000 in
theorem reads_1 {Dec : World → Nat → Nat → Value → List Nat → Rc.D → Prop} (S : DecSpec Dec) (w0 w : World) (P : Nat) (av bv : Value) (its : List It) (a r : Nat) (v y : Value) (bs : List Nat) (d : Rc.D) (row p n xv : Int) (k : Nat) (hk : k < its.length) (hkk : ofN its.length row = k) (h : Red Dec w0 w P av bv its a r v y bs d) (rv er : Int) (d' : Rc.D) (xs' : List Int) (hP : PGet Dec 53 #[.pointer (some ⟨a, 0, none⟩), .pointer (some ⟨its[k].a, 0, none⟩), .int .i64 p, .int .i64 n] w0.heap.size a v its[k] bs d (.tuple #[.int .i64 rv, .int .i64 er]) d' xs') (hR : RGet 61 #[.pointer (some ⟨r, 0, none⟩), .pointer (some ⟨its[k].r, 0, none⟩), .int .i64 p, .int .i64 n, .bool true] w0.heap.size r y its[k] bs d (.tuple #[.int .i64 rv, .int .i64 er]) d' xs') (hO : OkD bs d') (hI : In31 xs') (hl : xs'.length = its[k].xs.length) :
    Calls Try.prog 32 #[.pointer (some ⟨P, 0, none⟩), .pointer (some ⟨a, 0, none⟩), .pointer (some ⟨r, 0, none⟩), .agg #[.int .i64 1, .int .i64 row, .int .i64 p, .int .i64 n, .int .i64 xv]] w fun z w' => z = .returned (.bool true) ∧ Red Dec w0 w' P av bv (its.set k (its[k].to xs')) a r v y bs d' := by
  have HPS : Hid (PGet Dec 53 #[.pointer (some ⟨a, 0, none⟩), .pointer (some ⟨its[k].a, 0, none⟩), .int .i64 p, .int .i64 n] w0.heap.size a v its[k] bs d (.tuple #[.int .i64 rv, .int .i64 er]) d' xs') := hP
  have HRS : Hid (RGet 61 #[.pointer (some ⟨r, 0, none⟩), .pointer (some ⟨its[k].r, 0, none⟩), .int .i64 p, .int .i64 n, .bool true] w0.heap.size r y its[k] bs d (.tuple #[.int .i64 rv, .int .i64 er]) d' xs') := hR
  have HOK : Hid (OkD bs d' ∧ In31 xs' ∧ xs'.length = its[k].xs.length) := ⟨hO, hI, hl⟩
  clear hP hR hO hI hl
  have HKK : Hid (ofN its.length row = k) := hkk
  have HCW : Hid (Red Dec w0 w P av bv its a r v y bs d) := h
  obtain ⟨la, lac, hav, hlac, hga⟩ := h.play.a_at (by omega)
  obtain ⟨lb, lbc, hbv, hlbc, hgb⟩ := h.play.b_at (by omega)
  have cw := chg_one w (.cells #[.int .i64 1, .int .i64 row, .int .i64 p, .int .i64 n, .int .i64 xv] 50)
  have HBX : Hid (Bx (w.alloc (.cells #[.int .i64 1, .int .i64 row, .int .i64 p, .int .i64 n, .int .i64 xv] 50)) w.heap.size 1 row p n xv) := ⟨heap_alloc_last w _⟩
  have HCD : Hid (Red Dec w0 (w.alloc (.cells #[.int .i64 1, .int .i64 row, .int .i64 p, .int .i64 n, .int .i64 xv] 50)) P av bv its a r v y bs d) := h.new S cw
  have hlaw := hga k hk
  have hlbw := hgb k hk
  have hpa := cell0 h.play.pair
  have hpb := cell1 h.play.pair
  rw [hav] at hpa
  rw [hbv] at hpb
  have Hla1 : Hid ((w.alloc (.cells #[.int .i64 1, .int .i64 row, .int .i64 p, .int .i64 n, .int .i64 xv] 50)).cell? ⟨P, 0, none⟩ = some (.slice (some ⟨la, 0, none⟩) its.length lac)) := cell_chg hpa cw
  have Hlb1 : Hid ((w.alloc (.cells #[.int .i64 1, .int .i64 row, .int .i64 p, .int .i64 n, .int .i64 xv] 50)).cell? ⟨P, 1, none⟩ = some (.slice (some ⟨lb, 0, none⟩) its.length lbc)) := cell_chg hpb cw
  have Hla2 : Hid ((w.alloc (.cells #[.int .i64 1, .int .i64 row, .int .i64 p, .int .i64 n, .int .i64 xv] 50)).cell? ⟨la, k, none⟩ = some (.pointer (some ⟨its[k].a, 0, none⟩))) := cell_chg hlaw cw
  have Hlb2 : Hid ((w.alloc (.cells #[.int .i64 1, .int .i64 row, .int .i64 p, .int .i64 n, .int .i64 xv] 50)).cell? ⟨lb, k, none⟩ = some (.pointer (some ⟨its[k].r, 0, none⟩))) := cell_chg hlbw cw
  have hkL : (k : Int) < (its.length : Int) := by omega
  clear hkk h hav hbv hga hgb cw hlaw hlbw hpa hpb
  go_enter Try.func32, Try.ntmps32
  go_wp2_with fail
  generalize w.alloc (.cells #[.int .i64 1, .int .i64 row, .int .i64 p, .int .i64 n, .int .i64 xv] 50) = wB at *
  obtain ⟨b, hb⟩ : ∃ b, w.heap.size = b := ⟨_, rfl⟩
  have HBL : Hid (w.heap.size = b) := hb
  rw [hb] at HBX ⊢
  clear hb
  refine wp_region_phase (mk := fun u => #[_, _, _, _, _, _, _, _, _, _, _, _, _, _, _, _, _, _, _, u 19, u 20, u 21, u 22, u 23, u 24, u 25, u 26, u 27, _, _, _, _, _, _, _, _, _, _, _, _, _, _, _, _, _, _, _, _, _, _, _, _, _, _, _, _, _, _, _, _, _, _, _, _, _, _, _, _, _, _, _, _, _, _, _, _, _, _, _, _, _, _, _, _, _, _, _, _, _, _, _, _, _, _, _, _, _, _, _, _, _, _, _, _, _, _, _, _, _, _, _, _, _, _, _, _, _, _, _, _, _, _, _, _, _, _, _, _, _, _, _, _, _]) (G := lookG [(19, .pointer (some ⟨P, 0, none⟩)), (20, .pointer (some ⟨P, 0, none⟩)), (21, .pointer (some ⟨P, 0, none⟩)), (22, .slice (some ⟨la, 0, none⟩) its.length lac), (23, .pointer (some ⟨P, 0, none⟩)), (24, .agg #[.int .i64 1, .int .i64 row, .int .i64 p, .int .i64 n, .int .i64 xv]), (25, .int .i64 (k : Int)), (26, .pointer (some ⟨la, k, none⟩)), (27, .pointer (some ⟨its[k].a, 0, none⟩))]) (J := fun _ _ w => Chg (fun _ => False) wB w) [6] (fun _ => undef) rfl (by kernel_rfl) 9 _ rfl rfl (by kernel_rfl) (by kernel_rfl) (by kernel_rfl) (by decide) ?_ ?_ ?_ ?_ ?_
  · repeat (refine ⟨⟨_, rfl, fun _ _ => rfl⟩, ?_⟩)
    exact trivial
  · exact fun q u u2 w _ h => h
  · exact (Chg.refl _ wB).drew
  · refine ⟨?_, ?_, ?_, ?_, ?_, ?_, ?_, ?_, ?_, trivial⟩
    · show StepR _ _ _ _ _ _  _ -- 19
      unfold StepR
      intro q u w hj hd K hK
      clear hd
      go_simp
      exact hK.out (.pointer (some ⟨P, 0, none⟩)) rfl
    · show StepR _ _ _ _ _ _  _ -- 20
      unfold StepR
      intro q u w hj hd K hK
      have h19 : u 19 = .pointer (some ⟨P, 0, none⟩) := hd.get 0 (by kernel_rfl)
      clear hd
      simp only [h19] at hK
      go_simp
      exact hK.out (.pointer (some ⟨P, 0, none⟩)) rfl
    · show StepR _ _ _ _ _ _  _ -- 21
      unfold StepR
      intro q u w hj hd K hK
      have h20 : u 20 = .pointer (some ⟨P, 0, none⟩) := hd.get 1 (by kernel_rfl)
      clear hd
      simp only [h20] at hK
      go_simp
      exact hK.out (.pointer (some ⟨P, 0, none⟩)) rfl
    · show StepR _ _ _ _ _ _  _ -- 22
      unfold StepR
      intro q u w hj hd K hK
      have h21 : u 21 = .pointer (some ⟨P, 0, none⟩) := hd.get 2 (by kernel_rfl)
      clear hd
      simp only [h21] at hK
      have hcell := cell_chg Hla1.out hj
      go_simp
      exact hK.out _ rfl
    · show StepR _ _ _ _ _ _  _ -- 23
      unfold StepR
      intro q u w hj hd K hK
      clear hd
      go_simp
      exact hK.out (.pointer (some ⟨P, 0, none⟩)) rfl
    · show StepR _ _ _ _ _ _  _ -- 24
      unfold StepR
      intro q u w hj hd K hK
      clear hd
      obtain ⟨b0, b1, b2, b3, b4⟩ := (HBX.out.keep hj (fun f => f)).cells
      go_simp
      exact hK.out _ rfl
    · show StepW _ _ _ _ _ _ 0 _ -- 25
      unfold StepW
      intro u w hj hd K hK
      have h23 : u 23 = .pointer (some ⟨P, 0, none⟩) := hd.get 4 (by kernel_rfl)
      have h24 : u 24 = .agg #[.int .i64 1, .int .i64 row, .int .i64 p, .int .i64 n, .int .i64 xv] := hd.get 5 (by kernel_rfl)
      clear hd
      simp only [h23, h24] at hK
      go_simp
      go_at_call 49
      refine (of_any w0 w P av bv its 1 row p n xv (HCD.out.play.new hj)).mono ?_
      rintro z w2 ⟨rfl, c2⟩
      rw [HKK.out]
      exact hK.out _ w2 (chg_then hj c2) rfl
    · show StepR _ _ _ _ _ _  _ -- 26
      unfold StepR
      intro q u w hj hd K hK
      have h22 : u 22 = .slice (some ⟨la, 0, none⟩) its.length lac := hd.get 3 (by kernel_rfl)
      have h25 : u 25 = .int .i64 (k : Int) := hd.get 6 (by kernel_rfl)
      clear hd
      simp only [h22, h25] at hK
      go_simp
      exact hK.out (.pointer (some ⟨la, k, none⟩)) rfl
    · show StepR _ _ _ _ _ _  _ -- 27
      unfold StepR
      intro q u w hj hd K hK
      have h26 : u 26 = .pointer (some ⟨la, k, none⟩) := hd.get 7 (by kernel_rfl)
      clear hd
      simp only [h26] at hK
      have hcell := cell_chg Hla2.out hj
      go_simp
      exact hK.out _ rfl
  · intro u w1 hj hA K hK
    have e27 : u 27 = .pointer (some ⟨its[k].a, 0, none⟩) := hA.at 27 (by kernel_rfl)
    clear hA
    have HBX2 : Hid (Bx w1 b 1 row p n xv) := HBX.out.keep hj (fun f => f)
    have HCD2 : Hid (Red Dec w0 w1 P av bv its a r v y bs d) := HCD.out.new S hj
    have Hlb1 : Hid (w1.cell? ⟨P, 1, none⟩ = some (.slice (some ⟨lb, 0, none⟩) its.length lbc)) := cell_chg Hlb1.out hj
    have Hlb2 : Hid (w1.cell? ⟨lb, k, none⟩ = some (.pointer (some ⟨its[k].r, 0, none⟩))) := cell_chg Hlb2.out hj
    clear hj HBX HCD Hla1 Hla2
    go_simp
    refine hK.out _ _ ?_
    clear hK
    generalize w1 = wB at *
    have HBX := HBX2
    have HCD := HCD2
    clear HBX2 HCD2
    go_wp2_with fail
    refine wp_region_phase (mk := fun u => #[_, _, _, _, _, _, _, _, _, _, _, _, _, _, _, _, _, _, _, _, _, _, _, _, _, _, _, _, u 28, u 29, u 30, u 31, u 32, u 33, u 34, u 35, u 36, _, _, _, _, _, _, _, _, _, _, _, _, _, _, _, _, _, _, _, _, _, _, _, _, _, _, _, _, _, _, _, _, _, _, _, _, _, _, _, _, _, _, _, _, _, _, _, _, _, _, _, _, _, _, _, _, _, _, _, _, _, _, _, _, _, _, _, _, _, _, _, _, _, _, _, _, _, _, _, _, _, _, _, _, _, _, _, _, _, _, _, _, _, _, _, _]) (G := lookG [(28, .pointer (some ⟨P, 0, none⟩)), (29, .pointer (some ⟨P, 0, none⟩)), (30, .pointer (some ⟨P, 1, none⟩)), (31, .slice (some ⟨lb, 0, none⟩) its.length lbc), (32, .pointer (some ⟨P, 0, none⟩)), (33, .agg #[.int .i64 1, .int .i64 row, .int .i64 p, .int .i64 n, .int .i64 xv]), (34, .int .i64 (k : Int)), (35, .pointer (some ⟨lb, k, none⟩)), (36, .pointer (some ⟨its[k].r, 0, none⟩))]) (J := fun _ _ w => Chg (fun _ => False) wB w) [6] (fun _ => undef) rfl (by kernel_rfl) 9 _ rfl rfl (by kernel_rfl) (by kernel_rfl) (by kernel_rfl) (by decide) ?_ ?_ ?_ ?_ ?_
    · repeat (refine ⟨⟨_, rfl, fun _ _ => rfl⟩, ?_⟩)
      exact trivial
    · exact fun q u u2 w _ h => h
    · exact (Chg.refl _ wB).drew
    · refine ⟨?_, ?_, ?_, ?_, ?_, ?_, ?_, ?_, ?_, trivial⟩
      · show StepR _ _ _ _ _ _  _ -- 28
        unfold StepR
        intro q u w hj hd K hK
        clear hd
        go_simp
        exact hK.out (.pointer (some ⟨P, 0, none⟩)) rfl
      · show StepR _ _ _ _ _ _  _ -- 29
        unfold StepR
        intro q u w hj hd K hK
        have h28 : u 28 = .pointer (some ⟨P, 0, none⟩) := hd.get 0 (by kernel_rfl)
        clear hd
        simp only [h28] at hK
        go_simp
        exact hK.out (.pointer (some ⟨P, 0, none⟩)) rfl
      · show StepR _ _ _ _ _ _  _ -- 30
        unfold StepR
        intro q u w hj hd K hK
        have h29 : u 29 = .pointer (some ⟨P, 0, none⟩) := hd.get 1 (by kernel_rfl)
        clear hd
        simp only [h29] at hK
        go_simp
        exact hK.out (.pointer (some ⟨P, 1, none⟩)) rfl
      · show StepR _ _ _ _ _ _  _ -- 31
        unfold StepR
        intro q u w hj hd K hK
        have h30 : u 30 = .pointer (some ⟨P, 1, none⟩) := hd.get 2 (by kernel_rfl)
        clear hd
        simp only [h30] at hK
        have hcell := cell_chg Hlb1.out hj
        go_simp
        exact hK.out _ rfl
      · show StepR _ _ _ _ _ _  _ -- 32
        unfold StepR
        intro q u w hj hd K hK
        clear hd
        go_simp
        exact hK.out (.pointer (some ⟨P, 0, none⟩)) rfl
      · show StepR _ _ _ _ _ _  _ -- 33
        unfold StepR
        intro q u w hj hd K hK
        clear hd
        obtain ⟨b0, b1, b2, b3, b4⟩ := (HBX.out.keep hj (fun f => f)).cells
        go_simp
        exact hK.out _ rfl
      · show StepW _ _ _ _ _ _ 0 _ -- 34
        unfold StepW
        intro u w hj hd K hK
        have h32 : u 32 = .pointer (some ⟨P, 0, none⟩) := hd.get 4 (by kernel_rfl)
        have h33 : u 33 = .agg #[.int .i64 1, .int .i64 row, .int .i64 p, .int .i64 n, .int .i64 xv] := hd.get 5 (by kernel_rfl)
        clear hd
        simp only [h32, h33] at hK
        go_simp
        go_at_call 49
        refine (of_any w0 w P av bv its 1 row p n xv (HCD.out.play.new hj)).mono ?_
        rintro z w2 ⟨rfl, c2⟩
        rw [HKK.out]
        exact hK.out _ w2 (chg_then hj c2) rfl
      · show StepR _ _ _ _ _ _  _ -- 35
        unfold StepR
        intro q u w hj hd K hK
        have h31 : u 31 = .slice (some ⟨lb, 0, none⟩) its.length lbc := hd.get 3 (by kernel_rfl)
        have h34 : u 34 = .int .i64 (k : Int) := hd.get 6 (by kernel_rfl)
        clear hd
        simp only [h31, h34] at hK
        go_simp
        exact hK.out (.pointer (some ⟨lb, k, none⟩)) rfl
      · show StepR _ _ _ _ _ _  _ -- 36
        unfold StepR
        intro q u w hj hd K hK
        have h35 : u 35 = .pointer (some ⟨lb, k, none⟩) := hd.get 7 (by kernel_rfl)
        clear hd
        simp only [h35] at hK
        have hcell := cell_chg Hlb2.out hj
        go_simp
        exact hK.out _ rfl
    · intro u w1 hj hA K hK
      have e36 : u 36 = .pointer (some ⟨its[k].r, 0, none⟩) := hA.at 36 (by kernel_rfl)
      clear hA
      have HBX2 : Hid (Bx w1 b 1 row p n xv) := HBX.out.keep hj (fun f => f)
      have HCD2 : Hid (Red Dec w0 w1 P av bv its a r v y bs d) := HCD.out.new S hj
      clear hj HBX HCD Hlb1 Hlb2
      go_simp
      refine hK.out _ _ ?_
      clear hK
      generalize w1 = wA at *
      have HBX := HBX2
      have HCD := HCD2
      clear HBX2 HCD2
      obtain ⟨b0, b1, b2, b3, b4⟩ := HBX.out.cells
      go_wp2_with fail
      refine ((HPS.out : PGet _ _ _ _ _ _ _ _ _ _ _ _) _ HCD.out.dec (HCD.out.play.good k hk).st HCD.out.play.chg.size).mono ?_
      rintro z w2 ⟨rfl, hD, hS, c2⟩
      have HD : Hid (Dec w2 w0.heap.size a v bs d') := hD
      have HS : Hid (St w2 w0.heap.size its[k].a its[k].v xs') := hS
      have HC2 : Hid (Chg (Fd a its[k].v) wA w2) := c2
      have hb2 : Bx w2 b 1 row p n xv := HBX.out.keep c2 (fun f => by
        rcases f with f | f
        · obtain ⟨cs, hcs⟩ := S.blk HCD.out.dec; rw [← f] at hcs; exact ty_ne hcs HBX.out.blk (by decide)
        · obtain ⟨cs, hcs⟩ := (HCD.out.play.good k hk).vb f; exact ty_ne hcs HBX.out.blk (by decide))
      obtain ⟨d0, d1, d2, d3, d4⟩ := hb2.cells
      clear hb2 hD hS c2 b0 b1 b2 b3 b4
      go_wp2_with fail
      refine ((HRS.out : RGet _ _ _ _ _ _ _ _ _ _ _) _ (HCD.out.side S k hk HC2.out).1 (HCD.out.side S k hk HC2.out).2 (Nat.le_trans HCD.out.play.chg.size HC2.out.size)).mono ?_
      rintro z w3 ⟨rfl, hR3, hT3, c3⟩
      have HE : Hid (Red Dec w0 w3 P av bv (its.set k (its[k].to xs')) a r v y bs d') := HCD.out.done S k hk xs' HC2.out HD.out HS.out c3 hR3 hT3 HOK.out.1 HOK.out.2.1 HOK.out.2.2
      clear hR3 hT3 c3 d0 d1 d2 d3 d4
      go_wp2
      go_ret
      exact ⟨rfl, HE.out⟩

set_option maxHeartbeats 8000000 in
set_option maxRecDepth 100000 in
theorem reads_3 {Dec : World → Nat → Nat → Value → List Nat → Rc.D → Prop} (S : DecSpec Dec) (w0 w : World) (P : Nat) (av bv : Value) (its : List It) (a r : Nat) (v y : Value) (bs : List Nat) (d : Rc.D) (row p n xv : Int) (k : Nat) (hk : k < its.length) (hkk : ofN its.length row = k) (h : Red Dec w0 w P av bv its a r v y bs d) (rv er : Int) (d' : Rc.D) (xs' : List Int) (hP : PGet Dec 54 #[.pointer (some ⟨a, 0, none⟩), .pointer (some ⟨its[k].a, 0, none⟩), .int .i64 p] w0.heap.size a v its[k] bs d (.tuple #[.int .i64 rv, .int .i64 er]) d' xs') (hR : RGet 62 #[.pointer (some ⟨r, 0, none⟩), .pointer (some ⟨its[k].r, 0, none⟩), .int .i64 p] w0.heap.size r y its[k] bs d (.tuple #[.int .i64 rv, .int .i64 er]) d' xs') (hO : OkD bs d') (hI : In31 xs') (hl : xs'.length = its[k].xs.length) :
    Calls Try.prog 32 #[.pointer (some ⟨P, 0, none⟩), .pointer (some ⟨a, 0, none⟩), .pointer (some ⟨r, 0, none⟩), .agg #[.int .i64 3, .int .i64 row, .int .i64 p, .int .i64 n, .int .i64 xv]] w fun z w' => z = .returned (.bool true) ∧ Red Dec w0 w' P av bv (its.set k (its[k].to xs')) a r v y bs d' := by
  have HPS : Hid (PGet Dec 54 #[.pointer (some ⟨a, 0, none⟩), .pointer (some ⟨its[k].a, 0, none⟩), .int .i64 p] w0.heap.size a v its[k] bs d (.tuple #[.int .i64 rv, .int .i64 er]) d' xs') := hP
  have HRS : Hid (RGet 62 #[.pointer (some ⟨r, 0, none⟩), .pointer (some ⟨its[k].r, 0, none⟩), .int .i64 p] w0.heap.size r y its[k] bs d (.tuple #[.int .i64 rv, .int .i64 er]) d' xs') := hR
  have HOK : Hid (OkD bs d' ∧ In31 xs' ∧ xs'.length = its[k].xs.length) := ⟨hO, hI, hl⟩
  clear hP hR hO hI hl
  have HKK : Hid (ofN its.length row = k) := hkk
  have HCW : Hid (Red Dec w0 w P av bv its a r v y bs d) := h
  obtain ⟨la, lac, hav, hlac, hga⟩ := h.play.a_at (by omega)
  obtain ⟨lb, lbc, hbv, hlbc, hgb⟩ := h.play.b_at (by omega)
  have cw := chg_one w (.cells #[.int .i64 3, .int .i64 row, .int .i64 p, .int .i64 n, .int .i64 xv] 50)
  have HBX : Hid (Bx (w.alloc (.cells #[.int .i64 3, .int .i64 row, .int .i64 p, .int .i64 n, .int .i64 xv] 50)) w.heap.size 3 row p n xv) := ⟨heap_alloc_last w _⟩
  have HCD : Hid (Red Dec w0 (w.alloc (.cells #[.int .i64 3, .int .i64 row, .int .i64 p, .int .i64 n, .int .i64 xv] 50)) P av bv its a r v y bs d) := h.new S cw
  have hlaw := hga k hk
  have hlbw := hgb k hk
  have hpa := cell0 h.play.pair
  have hpb := cell1 h.play.pair
  rw [hav] at hpa
  rw [hbv] at hpb
  have Hla1 : Hid ((w.alloc (.cells #[.int .i64 3, .int .i64 row, .int .i64 p, .int .i64 n, .int .i64 xv] 50)).cell? ⟨P, 0, none⟩ = some (.slice (some ⟨la, 0, none⟩) its.length lac)) := cell_chg hpa cw
  have Hlb1 : Hid ((w.alloc (.cells #[.int .i64 3, .int .i64 row, .int .i64 p, .int .i64 n, .int .i64 xv] 50)).cell? ⟨P, 1, none⟩ = some (.slice (some ⟨lb, 0, none⟩) its.length lbc)) := cell_chg hpb cw
  have Hla2 : Hid ((w.alloc (.cells #[.int .i64 3, .int .i64 row, .int .i64 p, .int .i64 n, .int .i64 xv] 50)).cell? ⟨la, k, none⟩ = some (.pointer (some ⟨its[k].a, 0, none⟩))) := cell_chg hlaw cw
  have Hlb2 : Hid ((w.alloc (.cells #[.int .i64 3, .int .i64 row, .int .i64 p, .int .i64 n, .int .i64 xv] 50)).cell? ⟨lb, k, none⟩ = some (.pointer (some ⟨its[k].r, 0, none⟩))) := cell_chg hlbw cw
  have hkL : (k : Int) < (its.length : Int) := by omega
  clear hkk h hav hbv hga hgb cw hlaw hlbw hpa hpb
  go_enter Try.func32, Try.ntmps32
  go_wp2_with fail
  generalize w.alloc (.cells #[.int .i64 3, .int .i64 row, .int .i64 p, .int .i64 n, .int .i64 xv] 50) = wB at *
  obtain ⟨b, hb⟩ : ∃ b, w.heap.size = b := ⟨_, rfl⟩
  have HBL : Hid (w.heap.size = b) := hb
  rw [hb] at HBX ⊢
  clear hb
  refine wp_region_phase (mk := fun u => #[_, _, _, _, _, _, _, _, _, _, _, _, _, _, _, _, _, _, _, u 19, u 20, u 21, u 22, u 23, u 24, u 25, u 26, u 27, _, _, _, _, _, _, _, _, _, _, _, _, _, _, _, _, _, _, _, _, _, _, _, _, _, _, _, _, _, _, _, _, _, _, _, _, _, _, _, _, _, _, _, _, _, _, _, _, _, _, _, _, _, _, _, _, _, _, _, _, _, _, _, _, _, _, _, _, _, _, _, _, _, _, _, _, _, _, _, _, _, _, _, _, _, _, _, _, _, _, _, _, _, _, _, _, _, _, _, _, _, _, _, _, _]) (G := lookG [(19, .pointer (some ⟨P, 0, none⟩)), (20, .pointer (some ⟨P, 0, none⟩)), (21, .pointer (some ⟨P, 0, none⟩)), (22, .slice (some ⟨la, 0, none⟩) its.length lac), (23, .pointer (some ⟨P, 0, none⟩)), (24, .agg #[.int .i64 3, .int .i64 row, .int .i64 p, .int .i64 n, .int .i64 xv]), (25, .int .i64 (k : Int)), (26, .pointer (some ⟨la, k, none⟩)), (27, .pointer (some ⟨its[k].a, 0, none⟩))]) (J := fun _ _ w => Chg (fun _ => False) wB w) [6] (fun _ => undef) rfl (by kernel_rfl) 9 _ rfl rfl (by kernel_rfl) (by kernel_rfl) (by kernel_rfl) (by decide) ?_ ?_ ?_ ?_ ?_
  · repeat (refine ⟨⟨_, rfl, fun _ _ => rfl⟩, ?_⟩)
    exact trivial
  · exact fun q u u2 w _ h => h
  · exact (Chg.refl _ wB).drew
  · refine ⟨?_, ?_, ?_, ?_, ?_, ?_, ?_, ?_, ?_, trivial⟩
    · show StepR _ _ _ _ _ _  _ -- 19
      unfold StepR
      intro q u w hj hd K hK
      clear hd
      go_simp
      exact hK.out (.pointer (some ⟨P, 0, none⟩)) rfl
    · show StepR _ _ _ _ _ _  _ -- 20
      unfold StepR
      intro q u w hj hd K hK
      have h19 : u 19 = .pointer (some ⟨P, 0, none⟩) := hd.get 0 (by kernel_rfl)
      clear hd
      simp only [h19] at hK
      go_simp
      exact hK.out (.pointer (some ⟨P, 0, none⟩)) rfl
    · show StepR _ _ _ _ _ _  _ -- 21
      unfold StepR
      intro q u w hj hd K hK
      have h20 : u 20 = .pointer (some ⟨P, 0, none⟩) := hd.get 1 (by kernel_rfl)
      clear hd
      simp only [h20] at hK
      go_simp
      exact hK.out (.pointer (some ⟨P, 0, none⟩)) rfl
    · show StepR _ _ _ _ _ _  _ -- 22
      unfold StepR
      intro q u w hj hd K hK
      have h21 : u 21 = .pointer (some ⟨P, 0, none⟩) := hd.get 2 (by kernel_rfl)
      clear hd
      simp only [h21] at hK
      have hcell := cell_chg Hla1.out hj
      go_simp
      exact hK.out _ rfl
    · show StepR _ _ _ _ _ _  _ -- 23
      unfold StepR
      intro q u w hj hd K hK
      clear hd
      go_simp
      exact hK.out (.pointer (some ⟨P, 0, none⟩)) rfl
    · show StepR _ _ _ _ _ _  _ -- 24
      unfold StepR
      intro q u w hj hd K hK
      clear hd
      obtain ⟨b0, b1, b2, b3, b4⟩ := (HBX.out.keep hj (fun f => f)).cells
      go_simp
      exact hK.out _ rfl
    · show StepW _ _ _ _ _ _ 0 _ -- 25
      unfold StepW
      intro u w hj hd K hK
      have h23 : u 23 = .pointer (some ⟨P, 0, none⟩) := hd.get 4 (by kernel_rfl)
      have h24 : u 24 = .agg #[.int .i64 3, .int .i64 row, .int .i64 p, .int .i64 n, .int .i64 xv] := hd.get 5 (by kernel_rfl)
      clear hd
      simp only [h23, h24] at hK
      go_simp
      go_at_call 49
      refine (of_any w0 w P av bv its 3 row p n xv (HCD.out.play.new hj)).mono ?_
      rintro z w2 ⟨rfl, c2⟩
      rw [HKK.out]
      exact hK.out _ w2 (chg_then hj c2) rfl
    · show StepR _ _ _ _ _ _  _ -- 26
      unfold StepR
      intro q u w hj hd K hK
      have h22 : u 22 = .slice (some ⟨la, 0, none⟩) its.length lac := hd.get 3 (by kernel_rfl)
      have h25 : u 25 = .int .i64 (k : Int) := hd.get 6 (by kernel_rfl)
      clear hd
      simp only [h22, h25] at hK
      go_simp
      exact hK.out (.pointer (some ⟨la, k, none⟩)) rfl
    · show StepR _ _ _ _ _ _  _ -- 27
      unfold StepR
      intro q u w hj hd K hK
      have h26 : u 26 = .pointer (some ⟨la, k, none⟩) := hd.get 7 (by kernel_rfl)
      clear hd
      simp only [h26] at hK
      have hcell := cell_chg Hla2.out hj
      go_simp
      exact hK.out _ rfl
  · intro u w1 hj hA K hK
    have e27 : u 27 = .pointer (some ⟨its[k].a, 0, none⟩) := hA.at 27 (by kernel_rfl)
    clear hA
    have HBX2 : Hid (Bx w1 b 3 row p n xv) := HBX.out.keep hj (fun f => f)
    have HCD2 : Hid (Red Dec w0 w1 P av bv its a r v y bs d) := HCD.out.new S hj
    have Hlb1 : Hid (w1.cell? ⟨P, 1, none⟩ = some (.slice (some ⟨lb, 0, none⟩) its.length lbc)) := cell_chg Hlb1.out hj
    have Hlb2 : Hid (w1.cell? ⟨lb, k, none⟩ = some (.pointer (some ⟨its[k].r, 0, none⟩))) := cell_chg Hlb2.out hj
    clear hj HBX HCD Hla1 Hla2
    go_simp
    refine hK.out _ _ ?_
    clear hK
    generalize w1 = wB at *
    have HBX := HBX2
    have HCD := HCD2
    clear HBX2 HCD2
    go_wp2_with fail
    refine wp_region_phase (mk := fun u => #[_, _, _, _, _, _, _, _, _, _, _, _, _, _, _, _, _, _, _, _, _, _, _, _, _, _, _, _, u 28, u 29, u 30, u 31, u 32, u 33, u 34, u 35, u 36, _, _, _, _, _, _, _, _, _, _, _, _, _, _, _, _, _, _, _, _, _, _, _, _, _, _, _, _, _, _, _, _, _, _, _, _, _, _, _, _, _, _, _, _, _, _, _, _, _, _, _, _, _, _, _, _, _, _, _, _, _, _, _, _, _, _, _, _, _, _, _, _, _, _, _, _, _, _, _, _, _, _, _, _, _, _, _, _, _, _, _, _, _, _, _, _]) (G := lookG [(28, .pointer (some ⟨P, 0, none⟩)), (29, .pointer (some ⟨P, 0, none⟩)), (30, .pointer (some ⟨P, 1, none⟩)), (31, .slice (some ⟨lb, 0, none⟩) its.length lbc), (32, .pointer (some ⟨P, 0, none⟩)), (33, .agg #[.int .i64 3, .int .i64 row, .int .i64 p, .int .i64 n, .int .i64 xv]), (34, .int .i64 (k : Int)), (35, .pointer (some ⟨lb, k, none⟩)), (36, .pointer (some ⟨its[k].r, 0, none⟩))]) (J := fun _ _ w => Chg (fun _ => False) wB w) [6] (fun _ => undef) rfl (by kernel_rfl) 9 _ rfl rfl (by kernel_rfl) (by kernel_rfl) (by kernel_rfl) (by decide) ?_ ?_ ?_ ?_ ?_
    · repeat (refine ⟨⟨_, rfl, fun _ _ => rfl⟩, ?_⟩)
      exact trivial
    · exact fun q u u2 w _ h => h
    · exact (Chg.refl _ wB).drew
    · refine ⟨?_, ?_, ?_, ?_, ?_, ?_, ?_, ?_, ?_, trivial⟩
      · show StepR _ _ _ _ _ _  _ -- 28
        unfold StepR
        intro q u w hj hd K hK
        clear hd
        go_simp
        exact hK.out (.pointer (some ⟨P, 0, none⟩)) rfl
      · show StepR _ _ _ _ _ _  _ -- 29
        unfold StepR
        intro q u w hj hd K hK
        have h28 : u 28 = .pointer (some ⟨P, 0, none⟩) := hd.get 0 (by kernel_rfl)
        clear hd
        simp only [h28] at hK
        go_simp
        exact hK.out (.pointer (some ⟨P, 0, none⟩)) rfl
      · show StepR _ _ _ _ _ _  _ -- 30
        unfold StepR
        intro q u w hj hd K hK
        have h29 : u 29 = .pointer (some ⟨P, 0, none⟩) := hd.get 1 (by kernel_rfl)
        clear hd
        simp only [h29] at hK
        go_simp
        exact hK.out (.pointer (some ⟨P, 1, none⟩)) rfl
      · show StepR _ _ _ _ _ _  _ -- 31
        unfold StepR
        intro q u w hj hd K hK
        have h30 : u 30 = .pointer (some ⟨P, 1, none⟩) := hd.get 2 (by kernel_rfl)
        clear hd
        simp only [h30] at hK
        have hcell := cell_chg Hlb1.out hj
        go_simp
        exact hK.out _ rfl
      · show StepR _ _ _ _ _ _  _ -- 32
        unfold StepR
        intro q u w hj hd K hK
        clear hd
        go_simp
        exact hK.out (.pointer (some ⟨P, 0, none⟩)) rfl
      · show StepR _ _ _ _ _ _  _ -- 33
        unfold StepR
        intro q u w hj hd K hK
        clear hd
        obtain ⟨b0, b1, b2, b3, b4⟩ := (HBX.out.keep hj (fun f => f)).cells
        go_simp
        exact hK.out _ rfl
      · show StepW _ _ _ _ _ _ 0 _ -- 34
        unfold StepW
        intro u w hj hd K hK
        have h32 : u 32 = .pointer (some ⟨P, 0, none⟩) := hd.get 4 (by kernel_rfl)
        have h33 : u 33 = .agg #[.int .i64 3, .int .i64 row, .int .i64 p, .int .i64 n, .int .i64 xv] := hd.get 5 (by kernel_rfl)
        clear hd
        simp only [h32, h33] at hK
        go_simp
        go_at_call 49
        refine (of_any w0 w P av bv its 3 row p n xv (HCD.out.play.new hj)).mono ?_
        rintro z w2 ⟨rfl, c2⟩
        rw [HKK.out]
        exact hK.out _ w2 (chg_then hj c2) rfl
      · show StepR _ _ _ _ _ _  _ -- 35
        unfold StepR
        intro q u w hj hd K hK
        have h31 : u 31 = .slice (some ⟨lb, 0, none⟩) its.length lbc := hd.get 3 (by kernel_rfl)
        have h34 : u 34 = .int .i64 (k : Int) := hd.get 6 (by kernel_rfl)
        clear hd
        simp only [h31, h34] at hK
        go_simp
        exact hK.out (.pointer (some ⟨lb, k, none⟩)) rfl
      · show StepR _ _ _ _ _ _  _ -- 36
        unfold StepR
        intro q u w hj hd K hK
        have h35 : u 35 = .pointer (some ⟨lb, k, none⟩) := hd.get 7 (by kernel_rfl)
        clear hd
        simp only [h35] at hK
        have hcell := cell_chg Hlb2.out hj
        go_simp
        exact hK.out _ rfl
    · intro u w1 hj hA K hK
      have e36 : u 36 = .pointer (some ⟨its[k].r, 0, none⟩) := hA.at 36 (by kernel_rfl)
      clear hA
      have HBX2 : Hid (Bx w1 b 3 row p n xv) := HBX.out.keep hj (fun f => f)
      have HCD2 : Hid (Red Dec w0 w1 P av bv its a r v y bs d) := HCD.out.new S hj
      clear hj HBX HCD Hlb1 Hlb2
      go_simp
      refine hK.out _ _ ?_
      clear hK
      generalize w1 = wA at *
      have HBX := HBX2
      have HCD := HCD2
      clear HBX2 HCD2
      obtain ⟨b0, b1, b2, b3, b4⟩ := HBX.out.cells
      go_wp2_with fail
      refine ((HPS.out : PGet _ _ _ _ _ _ _ _ _ _ _ _) _ HCD.out.dec (HCD.out.play.good k hk).st HCD.out.play.chg.size).mono ?_
      rintro z w2 ⟨rfl, hD, hS, c2⟩
      have HD : Hid (Dec w2 w0.heap.size a v bs d') := hD
      have HS : Hid (St w2 w0.heap.size its[k].a its[k].v xs') := hS
      have HC2 : Hid (Chg (Fd a its[k].v) wA w2) := c2
      have hb2 : Bx w2 b 3 row p n xv := HBX.out.keep c2 (fun f => by
        rcases f with f | f
        · obtain ⟨cs, hcs⟩ := S.blk HCD.out.dec; rw [← f] at hcs; exact ty_ne hcs HBX.out.blk (by decide)
        · obtain ⟨cs, hcs⟩ := (HCD.out.play.good k hk).vb f; exact ty_ne hcs HBX.out.blk (by decide))
      obtain ⟨d0, d1, d2, d3, d4⟩ := hb2.cells
      clear hb2 hD hS c2 b0 b1 b2 b3 b4
      go_wp2_with fail
      refine ((HRS.out : RGet _ _ _ _ _ _ _ _ _ _ _) _ (HCD.out.side S k hk HC2.out).1 (HCD.out.side S k hk HC2.out).2 (Nat.le_trans HCD.out.play.chg.size HC2.out.size)).mono ?_
      rintro z w3 ⟨rfl, hR3, hT3, c3⟩
      have HE : Hid (Red Dec w0 w3 P av bv (its.set k (its[k].to xs')) a r v y bs d') := HCD.out.done S k hk xs' HC2.out HD.out HS.out c3 hR3 hT3 HOK.out.1 HOK.out.2.1 HOK.out.2.2
      clear hR3 hT3 c3 d0 d1 d2 d3 d4
      go_wp2
      go_ret
      exact ⟨rfl, HE.out⟩

set_option maxHeartbeats 8000000 in
set_option maxRecDepth 100000 in
theorem reads_4 {Dec : World → Nat → Nat → Value → List Nat → Rc.D → Prop} (S : DecSpec Dec) (w0 w : World) (P : Nat) (av bv : Value) (its : List It) (a r : Nat) (v y : Value) (bs : List Nat) (d : Rc.D) (row p n xv : Int) (k : Nat) (hk : k < its.length) (hkk : ofN its.length row = k) (h : Red Dec w0 w P av bv its a r v y bs d) (rv er : Int) (d' : Rc.D) (xs' : List Int) (hP : PGet Dec 56 #[.pointer (some ⟨a, 0, none⟩), .int .i64 n] w0.heap.size a v its[k] bs d (.tuple #[.int .u32 rv, .int .i64 er]) d' xs') (hR : RGet 63 #[.pointer (some ⟨r, 0, none⟩), .int .i64 n] w0.heap.size r y its[k] bs d (.tuple #[.int .u32 rv, .int .i64 er]) d' xs') (hO : OkD bs d') (hI : In31 xs') (hl : xs'.length = its[k].xs.length) :
    Calls Try.prog 32 #[.pointer (some ⟨P, 0, none⟩), .pointer (some ⟨a, 0, none⟩), .pointer (some ⟨r, 0, none⟩), .agg #[.int .i64 4, .int .i64 row, .int .i64 p, .int .i64 n, .int .i64 xv]] w fun z w' => z = .returned (.bool true) ∧ Red Dec w0 w' P av bv (its.set k (its[k].to xs')) a r v y bs d' := by
  have HPS : Hid (PGet Dec 56 #[.pointer (some ⟨a, 0, none⟩), .int .i64 n] w0.heap.size a v its[k] bs d (.tuple #[.int .u32 rv, .int .i64 er]) d' xs') := hP
  have HRS : Hid (RGet 63 #[.pointer (some ⟨r, 0, none⟩), .int .i64 n] w0.heap.size r y its[k] bs d (.tuple #[.int .u32 rv, .int .i64 er]) d' xs') := hR
  have HOK : Hid (OkD bs d' ∧ In31 xs' ∧ xs'.length = its[k].xs.length) := ⟨hO, hI, hl⟩
  clear hP hR hO hI hl
  have HKK : Hid (ofN its.length row = k) := hkk
  have HCW : Hid (Red Dec w0 w P av bv its a r v y bs d) := h
  obtain ⟨la, lac, hav, hlac, hga⟩ := h.play.a_at (by omega)
  obtain ⟨lb, lbc, hbv, hlbc, hgb⟩ := h.play.b_at (by omega)
  have cw := chg_one w (.cells #[.int .i64 4, .int .i64 row, .int .i64 p, .int .i64 n, .int .i64 xv] 50)
  have HBX : Hid (Bx (w.alloc (.cells #[.int .i64 4, .int .i64 row, .int .i64 p, .int .i64 n, .int .i64 xv] 50)) w.heap.size 4 row p n xv) := ⟨heap_alloc_last w _⟩
  have HCD : Hid (Red Dec w0 (w.alloc (.cells #[.int .i64 4, .int .i64 row, .int .i64 p, .int .i64 n, .int .i64 xv] 50)) P av bv its a r v y bs d) := h.new S cw
  have hlaw := hga k hk
  have hlbw := hgb k hk
  have hpa := cell0 h.play.pair
  have hpb := cell1 h.play.pair
  rw [hav] at hpa
  rw [hbv] at hpb
  have Hla1 : Hid ((w.alloc (.cells #[.int .i64 4, .int .i64 row, .int .i64 p, .int .i64 n, .int .i64 xv] 50)).cell? ⟨P, 0, none⟩ = some (.slice (some ⟨la, 0, none⟩) its.length lac)) := cell_chg hpa cw
  have Hlb1 : Hid ((w.alloc (.cells #[.int .i64 4, .int .i64 row, .int .i64 p, .int .i64 n, .int .i64 xv] 50)).cell? ⟨P, 1, none⟩ = some (.slice (some ⟨lb, 0, none⟩) its.length lbc)) := cell_chg hpb cw
  have Hla2 : Hid ((w.alloc (.cells #[.int .i64 4, .int .i64 row, .int .i64 p, .int .i64 n, .int .i64 xv] 50)).cell? ⟨la, k, none⟩ = some (.pointer (some ⟨its[k].a, 0, none⟩))) := cell_chg hlaw cw
  have Hlb2 : Hid ((w.alloc (.cells #[.int .i64 4, .int .i64 row, .int .i64 p, .int .i64 n, .int .i64 xv] 50)).cell? ⟨lb, k, none⟩ = some (.pointer (some ⟨its[k].r, 0, none⟩))) := cell_chg hlbw cw
  have hkL : (k : Int) < (its.length : Int) := by omega
  clear hkk h hav hbv hga hgb cw hlaw hlbw hpa hpb
  go_enter Try.func32, Try.ntmps32
  go_wp2_with fail
  generalize w.alloc (.cells #[.int .i64 4, .int .i64 row, .int .i64 p, .int .i64 n, .int .i64 xv] 50) = wB at *
  obtain ⟨b, hb⟩ : ∃ b, w.heap.size = b := ⟨_, rfl⟩
  have HBL : Hid (w.heap.size = b) := hb
  rw [hb] at HBX ⊢
  clear hb
  refine wp_region_phase (mk := fun u => #[_, _, _, _, _, _, _, _, _, _, _, _, _, _, _, _, _, _, _, u 19, u 20, u 21, u 22, u 23, u 24, u 25, u 26, u 27, _, _, _, _, _, _, _, _, _, _, _, _, _, _, _, _, _, _, _, _, _, _, _, _, _, _, _, _, _, _, _, _, _, _, _, _, _, _, _, _, _, _, _, _, _, _, _, _, _, _, _, _, _, _, _, _, _, _, _, _, _, _, _, _, _, _, _, _, _, _, _, _, _, _, _, _, _, _, _, _, _, _, _, _, _, _, _, _, _, _, _, _, _, _, _, _, _, _, _, _, _, _, _, _, _]) (G := lookG [(19, .pointer (some ⟨P, 0, none⟩)), (20, .pointer (some ⟨P, 0, none⟩)), (21, .pointer (some ⟨P, 0, none⟩)), (22, .slice (some ⟨la, 0, none⟩) its.length lac), (23, .pointer (some ⟨P, 0, none⟩)), (24, .agg #[.int .i64 4, .int .i64 row, .int .i64 p, .int .i64 n, .int .i64 xv]), (25, .int .i64 (k : Int)), (26, .pointer (some ⟨la, k, none⟩)), (27, .pointer (some ⟨its[k].a, 0, none⟩))]) (J := fun _ _ w => Chg (fun _ => False) wB w) [6] (fun _ => undef) rfl (by kernel_rfl) 9 _ rfl rfl (by kernel_rfl) (by kernel_rfl) (by kernel_rfl) (by decide) ?_ ?_ ?_ ?_ ?_
  · repeat (refine ⟨⟨_, rfl, fun _ _ => rfl⟩, ?_⟩)
    exact trivial
  · exact fun q u u2 w _ h => h
  · exact (Chg.refl _ wB).drew
  · refine ⟨?_, ?_, ?_, ?_, ?_, ?_, ?_, ?_, ?_, trivial⟩
    · show StepR _ _ _ _ _ _  _ -- 19
      unfold StepR
      intro q u w hj hd K hK
      clear hd
      go_simp
      exact hK.out (.pointer (some ⟨P, 0, none⟩)) rfl
    · show StepR _ _ _ _ _ _  _ -- 20
      unfold StepR
      intro q u w hj hd K hK
      have h19 : u 19 = .pointer (some ⟨P, 0, none⟩) := hd.get 0 (by kernel_rfl)
      clear hd
      simp only [h19] at hK
      go_simp
      exact hK.out (.pointer (some ⟨P, 0, none⟩)) rfl
    · show StepR _ _ _ _ _ _  _ -- 21
      unfold StepR
      intro q u w hj hd K hK
      have h20 : u 20 = .pointer (some ⟨P, 0, none⟩) := hd.get 1 (by kernel_rfl)
      clear hd
      simp only [h20] at hK
      go_simp
      exact hK.out (.pointer (some ⟨P, 0, none⟩)) rfl
    · show StepR _ _ _ _ _ _  _ -- 22
      unfold StepR
      intro q u w hj hd K hK
      have h21 : u 21 = .pointer (some ⟨P, 0, none⟩) := hd.get 2 (by kernel_rfl)
      clear hd
      simp only [h21] at hK
      have hcell := cell_chg Hla1.out hj
      go_simp
      exact hK.out _ rfl
    · show StepR _ _ _ _ _ _  _ -- 23
      unfold StepR
      intro q u w hj hd K hK
      clear hd
      go_simp
      exact hK.out (.pointer (some ⟨P, 0, none⟩)) rfl
    · show StepR _ _ _ _ _ _  _ -- 24
      unfold StepR
      intro q u w hj hd K hK
      clear hd
      obtain ⟨b0, b1, b2, b3, b4⟩ := (HBX.out.keep hj (fun f => f)).cells
      go_simp
      exact hK.out _ rfl
    · show StepW _ _ _ _ _ _ 0 _ -- 25
      unfold StepW
      intro u w hj hd K hK
      have h23 : u 23 = .pointer (some ⟨P, 0, none⟩) := hd.get 4 (by kernel_rfl)
      have h24 : u 24 = .agg #[.int .i64 4, .int .i64 row, .int .i64 p, .int .i64 n, .int .i64 xv] := hd.get 5 (by kernel_rfl)
      clear hd
      simp only [h23, h24] at hK
      go_simp
      go_at_call 49
      refine (of_any w0 w P av bv its 4 row p n xv (HCD.out.play.new hj)).mono ?_
      rintro z w2 ⟨rfl, c2⟩
      rw [HKK.out]
      exact hK.out _ w2 (chg_then hj c2) rfl
    · show StepR _ _ _ _ _ _  _ -- 26
      unfold StepR
      intro q u w hj hd K hK
      have h22 : u 22 = .slice (some ⟨la, 0, none⟩) its.length lac := hd.get 3 (by kernel_rfl)
      have h25 : u 25 = .int .i64 (k : Int) := hd.get 6 (by kernel_rfl)
      clear hd
      simp only [h22, h25] at hK
      go_simp
      exact hK.out (.pointer (some ⟨la, k, none⟩)) rfl
    · show StepR _ _ _ _ _ _  _ -- 27
      unfold StepR
      intro q u w hj hd K hK
      have h26 : u 26 = .pointer (some ⟨la, k, none⟩) := hd.get 7 (by kernel_rfl)
      clear hd
      simp only [h26] at hK
      have hcell := cell_chg Hla2.out hj
      go_simp
      exact hK.out _ rfl
  · intro u w1 hj hA K hK
    have e27 : u 27 = .pointer (some ⟨its[k].a, 0, none⟩) := hA.at 27 (by kernel_rfl)
    clear hA
    have HBX2 : Hid (Bx w1 b 4 row p n xv) := HBX.out.keep hj (fun f => f)
    have HCD2 : Hid (Red Dec w0 w1 P av bv its a r v y bs d) := HCD.out.new S hj
    have Hlb1 : Hid (w1.cell? ⟨P, 1, none⟩ = some (.slice (some ⟨lb, 0, none⟩) its.length lbc)) := cell_chg Hlb1.out hj
    have Hlb2 : Hid (w1.cell? ⟨lb, k, none⟩ = some (.pointer (some ⟨its[k].r, 0, none⟩))) := cell_chg Hlb2.out hj
    clear hj HBX HCD Hla1 Hla2
    go_simp
    refine hK.out _ _ ?_
    clear hK
    generalize w1 = wB at *
    have HBX := HBX2
    have HCD := HCD2
    clear HBX2 HCD2
    go_wp2_with fail
    refine wp_region_phase (mk := fun u => #[_, _, _, _, _, _, _, _, _, _, _, _, _, _, _, _, _, _, _, _, _, _, _, _, _, _, _, _, u 28, u 29, u 30, u 31, u 32, u 33, u 34, u 35, u 36, _, _, _, _, _, _, _, _, _, _, _, _, _, _, _, _, _, _, _, _, _, _, _, _, _, _, _, _, _, _, _, _, _, _, _, _, _, _, _, _, _, _, _, _, _, _, _, _, _, _, _, _, _, _, _, _, _, _, _, _, _, _, _, _, _, _, _, _, _, _, _, _, _, _, _, _, _, _, _, _, _, _, _, _, _, _, _, _, _, _, _, _, _, _, _, _]) (G := lookG [(28, .pointer (some ⟨P, 0, none⟩)), (29, .pointer (some ⟨P, 0, none⟩)), (30, .pointer (some ⟨P, 1, none⟩)), (31, .slice (some ⟨lb, 0, none⟩) its.length lbc), (32, .pointer (some ⟨P, 0, none⟩)), (33, .agg #[.int .i64 4, .int .i64 row, .int .i64 p, .int .i64 n, .int .i64 xv]), (34, .int .i64 (k : Int)), (35, .pointer (some ⟨lb, k, none⟩)), (36, .pointer (some ⟨its[k].r, 0, none⟩))]) (J := fun _ _ w => Chg (fun _ => False) wB w) [6] (fun _ => undef) rfl (by kernel_rfl) 9 _ rfl rfl (by kernel_rfl) (by kernel_rfl) (by kernel_rfl) (by decide) ?_ ?_ ?_ ?_ ?_
    · repeat (refine ⟨⟨_, rfl, fun _ _ => rfl⟩, ?_⟩)
      exact trivial
    · exact fun q u u2 w _ h => h
    · exact (Chg.refl _ wB).drew
    · refine ⟨?_, ?_, ?_, ?_, ?_, ?_, ?_, ?_, ?_, trivial⟩
      · show StepR _ _ _ _ _ _  _ -- 28
        unfold StepR
        intro q u w hj hd K hK
        clear hd
        go_simp
        exact hK.out (.pointer (some ⟨P, 0, none⟩)) rfl
      · show StepR _ _ _ _ _ _  _ -- 29
        unfold StepR
        intro q u w hj hd K hK
        have h28 : u 28 = .pointer (some ⟨P, 0, none⟩) := hd.get 0 (by kernel_rfl)
        clear hd
        simp only [h28] at hK
        go_simp
        exact hK.out (.pointer (some ⟨P, 0, none⟩)) rfl
      · show StepR _ _ _ _ _ _  _ -- 30
        unfold StepR
        intro q u w hj hd K hK
        have h29 : u 29 = .pointer (some ⟨P, 0, none⟩) := hd.get 1 (by kernel_rfl)
        clear hd
        simp only [h29] at hK
        go_simp
        exact hK.out (.pointer (some ⟨P, 1, none⟩)) rfl
      · show StepR _ _ _ _ _ _  _ -- 31
        unfold StepR
        intro q u w hj hd K hK
        have h30 : u 30 = .pointer (some ⟨P, 1, none⟩) := hd.get 2 (by kernel_rfl)
        clear hd
        simp only [h30] at hK
        have hcell := cell_chg Hlb1.out hj
        go_simp
        exact hK.out _ rfl
      · show StepR _ _ _ _ _ _  _ -- 32
        unfold StepR
        intro q u w hj hd K hK
        clear hd
        go_simp
        exact hK.out (.pointer (some ⟨P, 0, none⟩)) rfl
      · show StepR _ _ _ _ _ _  _ -- 33
        unfold StepR
        intro q u w hj hd K hK
        clear hd
        obtain ⟨b0, b1, b2, b3, b4⟩ := (HBX.out.keep hj (fun f => f)).cells
        go_simp
        exact hK.out _ rfl
      · show StepW _ _ _ _ _ _ 0 _ -- 34
        unfold StepW
        intro u w hj hd K hK
        have h32 : u 32 = .pointer (some ⟨P, 0, none⟩) := hd.get 4 (by kernel_rfl)
        have h33 : u 33 = .agg #[.int .i64 4, .int .i64 row, .int .i64 p, .int .i64 n, .int .i64 xv] := hd.get 5 (by kernel_rfl)
        clear hd
        simp only [h32, h33] at hK
        go_simp
        go_at_call 49
        refine (of_any w0 w P av bv its 4 row p n xv (HCD.out.play.new hj)).mono ?_
        rintro z w2 ⟨rfl, c2⟩
        rw [HKK.out]
        exact hK.out _ w2 (chg_then hj c2) rfl
      · show StepR _ _ _ _ _ _  _ -- 35
        unfold StepR
        intro q u w hj hd K hK
        have h31 : u 31 = .slice (some ⟨lb, 0, none⟩) its.length lbc := hd.get 3 (by kernel_rfl)
        have h34 : u 34 = .int .i64 (k : Int) := hd.get 6 (by kernel_rfl)
        clear hd
        simp only [h31, h34] at hK
        go_simp
        exact hK.out (.pointer (some ⟨lb, k, none⟩)) rfl
      · show StepR _ _ _ _ _ _  _ -- 36
        unfold StepR
        intro q u w hj hd K hK
        have h35 : u 35 = .pointer (some ⟨lb, k, none⟩) := hd.get 7 (by kernel_rfl)
        clear hd
        simp only [h35] at hK
        have hcell := cell_chg Hlb2.out hj
        go_simp
        exact hK.out _ rfl
    · intro u w1 hj hA K hK
      have e36 : u 36 = .pointer (some ⟨its[k].r, 0, none⟩) := hA.at 36 (by kernel_rfl)
      clear hA
      have HBX2 : Hid (Bx w1 b 4 row p n xv) := HBX.out.keep hj (fun f => f)
      have HCD2 : Hid (Red Dec w0 w1 P av bv its a r v y bs d) := HCD.out.new S hj
      clear hj HBX HCD Hlb1 Hlb2
      go_simp
      refine hK.out _ _ ?_
      clear hK
      generalize w1 = wA at *
      have HBX := HBX2
      have HCD := HCD2
      clear HBX2 HCD2
      obtain ⟨b0, b1, b2, b3, b4⟩ := HBX.out.cells
      go_wp2_with fail
      refine ((HPS.out : PGet _ _ _ _ _ _ _ _ _ _ _ _) _ HCD.out.dec (HCD.out.play.good k hk).st HCD.out.play.chg.size).mono ?_
      rintro z w2 ⟨rfl, hD, hS, c2⟩
      have HD : Hid (Dec w2 w0.heap.size a v bs d') := hD
      have HS : Hid (St w2 w0.heap.size its[k].a its[k].v xs') := hS
      have HC2 : Hid (Chg (Fd a its[k].v) wA w2) := c2
      have hb2 : Bx w2 b 4 row p n xv := HBX.out.keep c2 (fun f => by
        rcases f with f | f
        · obtain ⟨cs, hcs⟩ := S.blk HCD.out.dec; rw [← f] at hcs; exact ty_ne hcs HBX.out.blk (by decide)
        · obtain ⟨cs, hcs⟩ := (HCD.out.play.good k hk).vb f; exact ty_ne hcs HBX.out.blk (by decide))
      obtain ⟨d0, d1, d2, d3, d4⟩ := hb2.cells
      clear hb2 hD hS c2 b0 b1 b2 b3 b4
      go_wp2_with fail
      refine ((HRS.out : RGet _ _ _ _ _ _ _ _ _ _ _) _ (HCD.out.side S k hk HC2.out).1 (HCD.out.side S k hk HC2.out).2 (Nat.le_trans HCD.out.play.chg.size HC2.out.size)).mono ?_
      rintro z w3 ⟨rfl, hR3, hT3, c3⟩
      have HE : Hid (Red Dec w0 w3 P av bv (its.set k (its[k].to xs')) a r v y bs d') := HCD.out.done S k hk xs' HC2.out HD.out HS.out c3 hR3 hT3 HOK.out.1 HOK.out.2.1 HOK.out.2.2
      clear hR3 hT3 c3 d0 d1 d2 d3 d4
      go_wp2
      go_ret
      exact ⟨rfl, HE.out⟩

set_option maxHeartbeats 8000000 in
set_option maxRecDepth 100000 in
theorem reads_c {Dec : World → Nat → Nat → Value → List Nat → Rc.D → Prop} (S : DecSpec Dec) (w0 w : World) (P : Nat) (av bv : Value) (its : List It) (a r : Nat) (v y : Value) (bs : List Nat) (d : Rc.D) (kd row p n xv : Int) (k : Nat) (hk : k < its.length) (hkk : ofN its.length row = k) (h : Red Dec w0 w P av bv its a r v y bs d) (k0 : kd ≠ 0) (k1 : kd ≠ 1) (k3 : kd ≠ 3) (k4 : kd ≠ 4) :
    Calls Try.prog 32 #[.pointer (some ⟨P, 0, none⟩), .pointer (some ⟨a, 0, none⟩), .pointer (some ⟨r, 0, none⟩), .agg #[.int .i64 kd, .int .i64 row, .int .i64 p, .int .i64 n, .int .i64 xv]] w fun z w' => z = .returned (.bool true) ∧ Red Dec w0 w' P av bv its a r v y bs d := by
  have q0 : (kd == 0) = false := by simp; omega
  have q1 : (kd == 1) = false := by simp; omega
  have q3 : (kd == 3) = false := by simp; omega
  have q4 : (kd == 4) = false := by simp; omega
  have HKK : Hid (ofN its.length row = k) := hkk
  have HCW : Hid (Red Dec w0 w P av bv its a r v y bs d) := h
  obtain ⟨la, lac, hav, hlac, hga⟩ := h.play.a_at (by omega)
  obtain ⟨lb, lbc, hbv, hlbc, hgb⟩ := h.play.b_at (by omega)
  have cw := chg_one w (.cells #[.int .i64 kd, .int .i64 row, .int .i64 p, .int .i64 n, .int .i64 xv] 50)
  have HBX : Hid (Bx (w.alloc (.cells #[.int .i64 kd, .int .i64 row, .int .i64 p, .int .i64 n, .int .i64 xv] 50)) w.heap.size kd row p n xv) := ⟨heap_alloc_last w _⟩
  have HCD : Hid (Red Dec w0 (w.alloc (.cells #[.int .i64 kd, .int .i64 row, .int .i64 p, .int .i64 n, .int .i64 xv] 50)) P av bv its a r v y bs d) := h.new S cw
  have hlaw := hga k hk
  have hlbw := hgb k hk
  have hpa := cell0 h.play.pair
  have hpb := cell1 h.play.pair
  rw [hav] at hpa
  rw [hbv] at hpb
  have Hla1 : Hid ((w.alloc (.cells #[.int .i64 kd, .int .i64 row, .int .i64 p, .int .i64 n, .int .i64 xv] 50)).cell? ⟨P, 0, none⟩ = some (.slice (some ⟨la, 0, none⟩) its.length lac)) := cell_chg hpa cw
  have Hlb1 : Hid ((w.alloc (.cells #[.int .i64 kd, .int .i64 row, .int .i64 p, .int .i64 n, .int .i64 xv] 50)).cell? ⟨P, 1, none⟩ = some (.slice (some ⟨lb, 0, none⟩) its.length lbc)) := cell_chg hpb cw
  have Hla2 : Hid ((w.alloc (.cells #[.int .i64 kd, .int .i64 row, .int .i64 p, .int .i64 n, .int .i64 xv] 50)).cell? ⟨la, k, none⟩ = some (.pointer (some ⟨its[k].a, 0, none⟩))) := cell_chg hlaw cw
  have Hlb2 : Hid ((w.alloc (.cells #[.int .i64 kd, .int .i64 row, .int .i64 p, .int .i64 n, .int .i64 xv] 50)).cell? ⟨lb, k, none⟩ = some (.pointer (some ⟨its[k].r, 0, none⟩))) := cell_chg hlbw cw
  have hkL : (k : Int) < (its.length : Int) := by omega
  clear hkk h hav hbv hga hgb cw hlaw hlbw hpa hpb
  go_enter Try.func32, Try.ntmps32
  go_wp2_with fail
  generalize w.alloc (.cells #[.int .i64 kd, .int .i64 row, .int .i64 p, .int .i64 n, .int .i64 xv] 50) = wB at *
  obtain ⟨b, hb⟩ : ∃ b, w.heap.size = b := ⟨_, rfl⟩
  have HBL : Hid (w.heap.size = b) := hb
  rw [hb] at HBX ⊢
  clear hb
  refine wp_region_phase (mk := fun u => #[_, _, _, _, _, _, _, _, _, _, _, _, _, _, _, _, _, _, _, u 19, u 20, u 21, u 22, u 23, u 24, u 25, u 26, u 27, _, _, _, _, _, _, _, _, _, _, _, _, _, _, _, _, _, _, _, _, _, _, _, _, _, _, _, _, _, _, _, _, _, _, _, _, _, _, _, _, _, _, _, _, _, _, _, _, _, _, _, _, _, _, _, _, _, _, _, _, _, _, _, _, _, _, _, _, _, _, _, _, _, _, _, _, _, _, _, _, _, _, _, _, _, _, _, _, _, _, _, _, _, _, _, _, _, _, _, _, _, _, _, _, _]) (G := lookG [(19, .pointer (some ⟨P, 0, none⟩)), (20, .pointer (some ⟨P, 0, none⟩)), (21, .pointer (some ⟨P, 0, none⟩)), (22, .slice (some ⟨la, 0, none⟩) its.length lac), (23, .pointer (some ⟨P, 0, none⟩)), (24, .agg #[.int .i64 kd, .int .i64 row, .int .i64 p, .int .i64 n, .int .i64 xv]), (25, .int .i64 (k : Int)), (26, .pointer (some ⟨la, k, none⟩)), (27, .pointer (some ⟨its[k].a, 0, none⟩))]) (J := fun _ _ w => Chg (fun _ => False) wB w) [6] (fun _ => undef) rfl (by kernel_rfl) 9 _ rfl rfl (by kernel_rfl) (by kernel_rfl) (by kernel_rfl) (by decide) ?_ ?_ ?_ ?_ ?_
  · repeat (refine ⟨⟨_, rfl, fun _ _ => rfl⟩, ?_⟩)
    exact trivial
  · exact fun q u u2 w _ h => h
  · exact (Chg.refl _ wB).drew
  · refine ⟨?_, ?_, ?_, ?_, ?_, ?_, ?_, ?_, ?_, trivial⟩
    · show StepR _ _ _ _ _ _  _ -- 19
      unfold StepR
      intro q u w hj hd K hK
      clear hd
      go_simp
      exact hK.out (.pointer (some ⟨P, 0, none⟩)) rfl
    · show StepR _ _ _ _ _ _  _ -- 20
      unfold StepR
      intro q u w hj hd K hK
      have h19 : u 19 = .pointer (some ⟨P, 0, none⟩) := hd.get 0 (by kernel_rfl)
      clear hd
      simp only [h19] at hK
      go_simp
      exact hK.out (.pointer (some ⟨P, 0, none⟩)) rfl
    · show StepR _ _ _ _ _ _  _ -- 21
      unfold StepR
      intro q u w hj hd K hK
      have h20 : u 20 = .pointer (some ⟨P, 0, none⟩) := hd.get 1 (by kernel_rfl)
      clear hd
      simp only [h20] at hK
      go_simp
      exact hK.out (.pointer (some ⟨P, 0, none⟩)) rfl
    · show StepR _ _ _ _ _ _  _ -- 22
      unfold StepR
      intro q u w hj hd K hK
      have h21 : u 21 = .pointer (some ⟨P, 0, none⟩) := hd.get 2 (by kernel_rfl)
      clear hd
      simp only [h21] at hK
      have hcell := cell_chg Hla1.out hj
      go_simp
      exact hK.out _ rfl
    · show StepR _ _ _ _ _ _  _ -- 23
      unfold StepR
      intro q u w hj hd K hK
      clear hd
      go_simp
      exact hK.out (.pointer (some ⟨P, 0, none⟩)) rfl
    · show StepR _ _ _ _ _ _  _ -- 24
      unfold StepR
      intro q u w hj hd K hK
      clear hd
      obtain ⟨b0, b1, b2, b3, b4⟩ := (HBX.out.keep hj (fun f => f)).cells
      go_simp
      exact hK.out _ rfl
    · show StepW _ _ _ _ _ _ 0 _ -- 25
      unfold StepW
      intro u w hj hd K hK
      have h23 : u 23 = .pointer (some ⟨P, 0, none⟩) := hd.get 4 (by kernel_rfl)
      have h24 : u 24 = .agg #[.int .i64 kd, .int .i64 row, .int .i64 p, .int .i64 n, .int .i64 xv] := hd.get 5 (by kernel_rfl)
      clear hd
      simp only [h23, h24] at hK
      go_simp
      go_at_call 49
      refine (of_any w0 w P av bv its kd row p n xv (HCD.out.play.new hj)).mono ?_
      rintro z w2 ⟨rfl, c2⟩
      rw [HKK.out]
      exact hK.out _ w2 (chg_then hj c2) rfl
    · show StepR _ _ _ _ _ _  _ -- 26
      unfold StepR
      intro q u w hj hd K hK
      have h22 : u 22 = .slice (some ⟨la, 0, none⟩) its.length lac := hd.get 3 (by kernel_rfl)
      have h25 : u 25 = .int .i64 (k : Int) := hd.get 6 (by kernel_rfl)
      clear hd
      simp only [h22, h25] at hK
      go_simp
      exact hK.out (.pointer (some ⟨la, k, none⟩)) rfl
    · show StepR _ _ _ _ _ _  _ -- 27
      unfold StepR
      intro q u w hj hd K hK
      have h26 : u 26 = .pointer (some ⟨la, k, none⟩) := hd.get 7 (by kernel_rfl)
      clear hd
      simp only [h26] at hK
      have hcell := cell_chg Hla2.out hj
      go_simp
      exact hK.out _ rfl
  · intro u w1 hj hA K hK
    have e27 : u 27 = .pointer (some ⟨its[k].a, 0, none⟩) := hA.at 27 (by kernel_rfl)
    clear hA
    have HBX2 : Hid (Bx w1 b kd row p n xv) := HBX.out.keep hj (fun f => f)
    have HCD2 : Hid (Red Dec w0 w1 P av bv its a r v y bs d) := HCD.out.new S hj
    have Hlb1 : Hid (w1.cell? ⟨P, 1, none⟩ = some (.slice (some ⟨lb, 0, none⟩) its.length lbc)) := cell_chg Hlb1.out hj
    have Hlb2 : Hid (w1.cell? ⟨lb, k, none⟩ = some (.pointer (some ⟨its[k].r, 0, none⟩))) := cell_chg Hlb2.out hj
    clear hj HBX HCD Hla1 Hla2
    go_simp
    refine hK.out _ _ ?_
    clear hK
    generalize w1 = wB at *
    have HBX := HBX2
    have HCD := HCD2
    clear HBX2 HCD2
    go_wp2_with fail
    refine wp_region_phase (mk := fun u => #[_, _, _, _, _, _, _, _, _, _, _, _, _, _, _, _, _, _, _, _, _, _, _, _, _, _, _, _, u 28, u 29, u 30, u 31, u 32, u 33, u 34, u 35, u 36, _, _, _, _, _, _, _, _, _, _, _, _, _, _, _, _, _, _, _, _, _, _, _, _, _, _, _, _, _, _, _, _, _, _, _, _, _, _, _, _, _, _, _, _, _, _, _, _, _, _, _, _, _, _, _, _, _, _, _, _, _, _, _, _, _, _, _, _, _, _, _, _, _, _, _, _, _, _, _, _, _, _, _, _, _, _, _, _, _, _, _, _, _, _, _, _]) (G := lookG [(28, .pointer (some ⟨P, 0, none⟩)), (29, .pointer (some ⟨P, 0, none⟩)), (30, .pointer (some ⟨P, 1, none⟩)), (31, .slice (some ⟨lb, 0, none⟩) its.length lbc), (32, .pointer (some ⟨P, 0, none⟩)), (33, .agg #[.int .i64 kd, .int .i64 row, .int .i64 p, .int .i64 n, .int .i64 xv]), (34, .int .i64 (k : Int)), (35, .pointer (some ⟨lb, k, none⟩)), (36, .pointer (some ⟨its[k].r, 0, none⟩))]) (J := fun _ _ w => Chg (fun _ => False) wB w) [6] (fun _ => undef) rfl (by kernel_rfl) 9 _ rfl rfl (by kernel_rfl) (by kernel_rfl) (by kernel_rfl) (by decide) ?_ ?_ ?_ ?_ ?_
    · repeat (refine ⟨⟨_, rfl, fun _ _ => rfl⟩, ?_⟩)
      exact trivial
    · exact fun q u u2 w _ h => h
    · exact (Chg.refl _ wB).drew
    · refine ⟨?_, ?_, ?_, ?_, ?_, ?_, ?_, ?_, ?_, trivial⟩
      · show StepR _ _ _ _ _ _  _ -- 28
        unfold StepR
        intro q u w hj hd K hK
        clear hd
        go_simp
        exact hK.out (.pointer (some ⟨P, 0, none⟩)) rfl
      · show StepR _ _ _ _ _ _  _ -- 29
        unfold StepR
        intro q u w hj hd K hK
        have h28 : u 28 = .pointer (some ⟨P, 0, none⟩) := hd.get 0 (by kernel_rfl)
        clear hd
        simp only [h28] at hK
        go_simp
        exact hK.out (.pointer (some ⟨P, 0, none⟩)) rfl
      · show StepR _ _ _ _ _ _  _ -- 30
        unfold StepR
        intro q u w hj hd K hK
        have h29 : u 29 = .pointer (some ⟨P, 0, none⟩) := hd.get 1 (by kernel_rfl)
        clear hd
        simp only [h29] at hK
        go_simp
        exact hK.out (.pointer (some ⟨P, 1, none⟩)) rfl
      · show StepR _ _ _ _ _ _  _ -- 31
        unfold StepR
        intro q u w hj hd K hK
        have h30 : u 30 = .pointer (some ⟨P, 1, none⟩) := hd.get 2 (by kernel_rfl)
        clear hd
        simp only [h30] at hK
        have hcell := cell_chg Hlb1.out hj
        go_simp
        exact hK.out _ rfl
      · show StepR _ _ _ _ _ _  _ -- 32
        unfold StepR
        intro q u w hj hd K hK
        clear hd
        go_simp
        exact hK.out (.pointer (some ⟨P, 0, none⟩)) rfl
      · show StepR _ _ _ _ _ _  _ -- 33
        unfold StepR
        intro q u w hj hd K hK
        clear hd
        obtain ⟨b0, b1, b2, b3, b4⟩ := (HBX.out.keep hj (fun f => f)).cells
        go_simp
        exact hK.out _ rfl
      · show StepW _ _ _ _ _ _ 0 _ -- 34
        unfold StepW
        intro u w hj hd K hK
        have h32 : u 32 = .pointer (some ⟨P, 0, none⟩) := hd.get 4 (by kernel_rfl)
        have h33 : u 33 = .agg #[.int .i64 kd, .int .i64 row, .int .i64 p, .int .i64 n, .int .i64 xv] := hd.get 5 (by kernel_rfl)
        clear hd
        simp only [h32, h33] at hK
        go_simp
        go_at_call 49
        refine (of_any w0 w P av bv its kd row p n xv (HCD.out.play.new hj)).mono ?_
        rintro z w2 ⟨rfl, c2⟩
        rw [HKK.out]
        exact hK.out _ w2 (chg_then hj c2) rfl
      · show StepR _ _ _ _ _ _  _ -- 35
        unfold StepR
        intro q u w hj hd K hK
        have h31 : u 31 = .slice (some ⟨lb, 0, none⟩) its.length lbc := hd.get 3 (by kernel_rfl)
        have h34 : u 34 = .int .i64 (k : Int) := hd.get 6 (by kernel_rfl)
        clear hd
        simp only [h31, h34] at hK
        go_simp
        exact hK.out (.pointer (some ⟨lb, k, none⟩)) rfl
      · show StepR _ _ _ _ _ _  _ -- 36
        unfold StepR
        intro q u w hj hd K hK
        have h35 : u 35 = .pointer (some ⟨lb, k, none⟩) := hd.get 7 (by kernel_rfl)
        clear hd
        simp only [h35] at hK
        have hcell := cell_chg Hlb2.out hj
        go_simp
        exact hK.out _ rfl
    · intro u w1 hj hA K hK
      have e36 : u 36 = .pointer (some ⟨its[k].r, 0, none⟩) := hA.at 36 (by kernel_rfl)
      clear hA
      have HBX2 : Hid (Bx w1 b kd row p n xv) := HBX.out.keep hj (fun f => f)
      have HCD2 : Hid (Red Dec w0 w1 P av bv its a r v y bs d) := HCD.out.new S hj
      clear hj HBX HCD Hlb1 Hlb2
      go_simp
      refine hK.out _ _ ?_
      clear hK
      generalize w1 = wA at *
      have HBX := HBX2
      have HCD := HCD2
      clear HBX2 HCD2
      obtain ⟨b0, b1, b2, b3, b4⟩ := HBX.out.cells
      go_wp2
      go_ret
      exact ⟨rfl, HCD.out⟩
end Go.Proofs.Ytibgjpifmpljkaa
