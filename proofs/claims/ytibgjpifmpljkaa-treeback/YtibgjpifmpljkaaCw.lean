/- The law's codes: a step of an encoder of both; of no statement by itself. -/
import Derived.Test.YtibgjpifmpljkaaCo
import Derived.Test.YtibgjpifmpljkaaBoundB
import Derived.Test.YtibgjpifmpljkaaBoundF
namespace Go.Proofs.Ytibgjpifmpljkaa
open Go.RowKit
set_option linter.unusedVariables false

/-- What a call of the program's, or of the document's, does to an encoder and a row. -/
def PSide (F : FuncId) (args : Array Value) (B a : Nat) (v : Value) (x : It) (e : Rc.E) (er : Int) (e' : Rc.E) (xs' : List Int) : Prop := ∀ w, Enc w B a v e → St w B x.a x.v x.xs → B ≤ w.heap.size → Calls Try.prog F args w fun z w' => z = .returned (.int .i64 er) ∧ ∃ v', Enc w' B a v' e' ∧ St w' B x.a x.v xs' ∧ Chg (SideP a v x) w w' ∧ Moved w v v'
def RSide (F : FuncId) (args : Array Value) (B r : Nat) (y : Value) (x : It) (e : Rc.E) (er : Int) (e' : Rc.E) (xs' : List Int) : Prop := ∀ w, Re w B r y (Rc.by_ e) e.R e.k → Rt w B x.r x.n x.u x.xs → B ≤ w.heap.size → Calls Try.prog F args w fun z w' => z = .returned (.int .i64 er) ∧ ∃ y', Re w' B r y' (Rc.by_ e') e'.R e'.k ∧ Rt w' B x.r x.n x.u xs' ∧ Chg (SideR r y x) w w' ∧ Moved w y y'
/-- The step in its box. -/
structure Bx (w : World) (b : Nat) (kd row p n xv : Int) : Prop where
  blk : w.heap[b]? = some (.cells #[.int .i64 kd, .int .i64 row, .int .i64 p, .int .i64 n, .int .i64 xv] 50 (0, 0))
theorem Bx.cells {w : World} {b : Nat} {kd row p n xv : Int} (h : Bx w b kd row p n xv) : w.cell? ⟨b, 0, none⟩ = some (.int .i64 kd) ∧ w.cell? ⟨b, 1, none⟩ = some (.int .i64 row) ∧ w.cell? ⟨b, 2, none⟩ = some (.int .i64 p) ∧ w.cell? ⟨b, 3, none⟩ = some (.int .i64 n) ∧ w.cell? ⟨b, 4, none⟩ = some (.int .i64 xv) := by
  refine ⟨?_, ?_, ?_, ?_, ?_⟩ <;> simp [World.cell?, h.blk]
theorem Bx.keep {w w' : World} {S : Nat → Prop} {b : Nat} {kd row p n xv : Int} (h : Bx w b kd row p n xv) (hc : Chg S w w') (hS : ¬ S b) : Bx w' b kd row p n xv := ⟨blk_keep h.blk hc hS⟩
/-- Under way: before, behind the program's call, behind both. -/
def Ways (w0 wA : World) (P : Nat) (av bv : Value) (its : List It) (k : Nat) (hk : k < its.length) (a r : Nat) (v y : Value) (e e' : Rc.E) (xs' : List Int) : Nat → World → Prop
  | 0, w => Chg (fun _ => False) wA w
  | 1, w => ∃ v', Enc w w0.heap.size a v' e' ∧ St w w0.heap.size its[k].a its[k].v xs' ∧ Chg (SideP a v its[k]) wA w ∧ Moved wA v v'
  | _, w => ∃ v' y', Cod w0 w P av bv (its.set k (its[k].to xs')) a r v' y' e'
theorem sideP_lt {w0 w : World} {P : Nat} {av bv : Value} {its : List It} {a r : Nat} {v y : Value} {e : Rc.E} (h : Cod w0 w P av bv its a r v y e) (k : Nat) (hk : k < its.length) : ∀ z, SideP a v its[k] z → z < w.heap.size := fun z f => by
  rcases f with f | f
  · exact (h.enc.foot_lt f).2
  · exact ((h.play.good k hk).st.own.lt z f).2
theorem sideR_lt {w0 w : World} {P : Nat} {av bv : Value} {its : List It} {a r : Nat} {v y : Value} {e : Rc.E} (h : Cod w0 w P av bv its a r v y e) (k : Nat) (hk : k < its.length) : ∀ z, SideR r y its[k] z → z < w.heap.size := fun z f => by
  rcases f with f | f
  · exact (h.re.foot_lt f).2
  · exact ((h.play.good k hk).rt.own.lt z f).2

set_option maxHeartbeats 8000000 in
set_option maxRecDepth 100000 in
theorem codes_0 (w0 w : World) (P : Nat) (av bv : Value) (its : List It) (a r : Nat) (v y : Value) (e : Rc.E) (row p n xv : Int) (k : Nat) (hk : k < its.length) (hkk : ofN its.length row = k) (h : Cod w0 w P av bv its a r v y e) (er : Int) (e' : Rc.E) (xs' : List Int) (hP : PSide 14 #[.pointer (some ⟨a, 0, none⟩), .pointer (some ⟨its[k].a, 0, none⟩), .int .i64 p, .int .i64 n, .int .i64 xv] w0.heap.size a v its[k] e er e' xs') (hR : RSide 57 #[.pointer (some ⟨r, 0, none⟩), .pointer (some ⟨its[k].r, 0, none⟩), .int .i64 p, .int .i64 n, .int .i64 xv, .bool false] w0.heap.size r y its[k] e er e' xs') (hO : Rc.Ok e') (hI : In31 xs') (hl : xs'.length = its[k].xs.length) :
    Calls Try.prog 28 #[.pointer (some ⟨P, 0, none⟩), .pointer (some ⟨a, 0, none⟩), .pointer (some ⟨r, 0, none⟩), .agg #[.int .i64 0, .int .i64 row, .int .i64 p, .int .i64 n, .int .i64 xv]] w fun z w' => z = .returned (.bool true) ∧ ∃ v' y', Cod w0 w' P av bv (its.set k (its[k].to xs')) a r v' y' e' := by
  have HPS : Hid (PSide 14 #[.pointer (some ⟨a, 0, none⟩), .pointer (some ⟨its[k].a, 0, none⟩), .int .i64 p, .int .i64 n, .int .i64 xv] w0.heap.size a v its[k] e er e' xs') := hP
  have HRS : Hid (RSide 57 #[.pointer (some ⟨r, 0, none⟩), .pointer (some ⟨its[k].r, 0, none⟩), .int .i64 p, .int .i64 n, .int .i64 xv, .bool false] w0.heap.size r y its[k] e er e' xs') := hR
  have HOK : Hid (Rc.Ok e' ∧ In31 xs' ∧ xs'.length = its[k].xs.length) := ⟨hO, hI, hl⟩
  have HKK : Hid (ofN its.length row = k) := hkk
  have HCW : Hid (Cod w0 w P av bv its a r v y e) := h
  obtain ⟨la, lac, hav, hlac, hga⟩ := h.play.a_at (by omega)
  obtain ⟨lb, lbc, hbv, hlbc, hgb⟩ := h.play.b_at (by omega)
  have cw := chg_one w (.cells #[.int .i64 0, .int .i64 row, .int .i64 p, .int .i64 n, .int .i64 xv] 50)
  have HBX : Hid (Bx (w.alloc (.cells #[.int .i64 0, .int .i64 row, .int .i64 p, .int .i64 n, .int .i64 xv] 50)) w.heap.size 0 row p n xv) := ⟨heap_alloc_last w _⟩
  have HCD : Hid (Cod w0 (w.alloc (.cells #[.int .i64 0, .int .i64 row, .int .i64 p, .int .i64 n, .int .i64 xv] 50)) P av bv its a r v y e) := h.new cw
  have hlaw := hga k hk
  have hlbw := hgb k hk
  have hpa := cell0 h.play.pair
  have hpb := cell1 h.play.pair
  rw [hav] at hpa
  rw [hbv] at hpb
  have Hla1 : Hid ((w.alloc (.cells #[.int .i64 0, .int .i64 row, .int .i64 p, .int .i64 n, .int .i64 xv] 50)).cell? ⟨P, 0, none⟩ = some (.slice (some ⟨la, 0, none⟩) its.length lac)) := cell_chg hpa cw
  have Hlb1 : Hid ((w.alloc (.cells #[.int .i64 0, .int .i64 row, .int .i64 p, .int .i64 n, .int .i64 xv] 50)).cell? ⟨P, 1, none⟩ = some (.slice (some ⟨lb, 0, none⟩) its.length lbc)) := cell_chg hpb cw
  have Hla2 : Hid ((w.alloc (.cells #[.int .i64 0, .int .i64 row, .int .i64 p, .int .i64 n, .int .i64 xv] 50)).cell? ⟨la, k, none⟩ = some (.pointer (some ⟨its[k].a, 0, none⟩))) := cell_chg hlaw cw
  have Hlb2 : Hid ((w.alloc (.cells #[.int .i64 0, .int .i64 row, .int .i64 p, .int .i64 n, .int .i64 xv] 50)).cell? ⟨lb, k, none⟩ = some (.pointer (some ⟨its[k].r, 0, none⟩))) := cell_chg hlbw cw
  have hkL : (k : Int) < (its.length : Int) := by omega
  clear hP hR hO hI hl hkk h hav hbv hga hgb cw hlaw hlbw hpa hpb
  go_enter Try.func28, Try.ntmps28
  go_wp2_with fail
  generalize w.alloc (.cells #[.int .i64 0, .int .i64 row, .int .i64 p, .int .i64 n, .int .i64 xv] 50) = wB at *
  obtain ⟨b, hb⟩ : ∃ b, w.heap.size = b := ⟨_, rfl⟩
  have HBL : Hid (w.heap.size = b) := hb
  rw [hb] at HBX ⊢
  clear hb
  refine wp_region_phase (mk := fun u => #[_, _, _, _, _, _, _, _, _, _, _, _, _, _, _, _, _, _, _, u 19, u 20, u 21, u 22, u 23, u 24, u 25, u 26, u 27, _, _, _, _, _, _, _, _, _, _, _, _, _, _, _, _, _, _, _, _, _, _, _, _, _, _, _, _, _, _, _, _, _, _, _, _, _, _, _, _, _, _, _, _, _, _, _, _, _, _, _, _, _, _, _, _, _, _, _, _, _, _, _, _, _, _, _, _, _, _, _, _, _, _, _, _, _, _, _, _, _, _, _, _, _, _, _, _, _, _, _, _, _, _, _, _, _, _, _, _, _, _, _, _, _, _, _, _, _, _, _, _, _, _, _, _, _, _, _, _, _, _, _, _, _, _, _, _, _, _, _, _, _, _, _, _, _, _, _, _, _, _, _, _, _, _, _, _, _]) (G := lookG [(19, .pointer (some ⟨P, 0, none⟩)), (20, .pointer (some ⟨P, 0, none⟩)), (21, .pointer (some ⟨P, 0, none⟩)), (22, .slice (some ⟨la, 0, none⟩) its.length lac), (23, .pointer (some ⟨P, 0, none⟩)), (24, .agg #[.int .i64 0, .int .i64 row, .int .i64 p, .int .i64 n, .int .i64 xv]), (25, .int .i64 (k : Int)), (26, .pointer (some ⟨la, k, none⟩)), (27, .pointer (some ⟨its[k].a, 0, none⟩))]) (J := fun _ _ w => Chg (fun _ => False) wB w) [6] (fun _ => undef) rfl (by kernel_rfl) 9 _ rfl rfl (by kernel_rfl) (by kernel_rfl) (by kernel_rfl) (by decide) ?_ ?_ ?_ ?_ ?_
  · repeat (refine ⟨⟨_, rfl, fun _ _ => rfl⟩, ?_⟩)
    exact trivial
  · exact fun q u u2 w _ h => h
  · exact (Chg.refl _ wB).drew
  · refine ⟨?_, ?_, ?_, ?_, ?_, ?_, ?_, ?_, ?_, trivial⟩
    · show StepR _ _ _ _ _ _  _ -- 19
      unfold StepR
      intro q u w hj hd K hK
      clear hd
      go_simp
      exact hK.out (.pointer (some ⟨P, 0, none⟩)) rfl
    · show StepR _ _ _ _ _ _  _ -- 20
      unfold StepR
      intro q u w hj hd K hK
      have h19 : u 19 = .pointer (some ⟨P, 0, none⟩) := hd.get 0 (by kernel_rfl)
      clear hd
      simp only [h19] at hK
      go_simp
      exact hK.out (.pointer (some ⟨P, 0, none⟩)) rfl
    · show StepR _ _ _ _ _ _  _ -- 21
      unfold StepR
      intro q u w hj hd K hK
      have h20 : u 20 = .pointer (some ⟨P, 0, none⟩) := hd.get 1 (by kernel_rfl)
      clear hd
      simp only [h20] at hK
      go_simp
      exact hK.out (.pointer (some ⟨P, 0, none⟩)) rfl
    · show StepR _ _ _ _ _ _  _ -- 22
      unfold StepR
      intro q u w hj hd K hK
      have h21 : u 21 = .pointer (some ⟨P, 0, none⟩) := hd.get 2 (by kernel_rfl)
      clear hd
      simp only [h21] at hK
      have hcell := cell_chg Hla1.out hj
      go_simp
      exact hK.out _ rfl
    · show StepR _ _ _ _ _ _  _ -- 23
      unfold StepR
      intro q u w hj hd K hK
      clear hd
      go_simp
      exact hK.out (.pointer (some ⟨P, 0, none⟩)) rfl
    · show StepR _ _ _ _ _ _  _ -- 24
      unfold StepR
      intro q u w hj hd K hK
      clear hd
      obtain ⟨b0, b1, b2, b3, b4⟩ := (HBX.out.keep hj (fun f => f)).cells
      go_simp
      exact hK.out _ rfl
    · show StepW _ _ _ _ _ _ 0 _ -- 25
      unfold StepW
      intro u w hj hd K hK
      have h23 : u 23 = .pointer (some ⟨P, 0, none⟩) := hd.get 4 (by kernel_rfl)
      have h24 : u 24 = .agg #[.int .i64 0, .int .i64 row, .int .i64 p, .int .i64 n, .int .i64 xv] := hd.get 5 (by kernel_rfl)
      clear hd
      simp only [h23, h24] at hK
      go_simp
      go_at_call 49
      refine (of_any w0 w P av bv its 0 row p n xv (HCD.out.play.new hj)).mono ?_
      rintro z w2 ⟨rfl, c2⟩
      rw [HKK.out]
      exact hK.out _ w2 (chg_then hj c2) rfl
    · show StepR _ _ _ _ _ _  _ -- 26
      unfold StepR
      intro q u w hj hd K hK
      have h22 : u 22 = .slice (some ⟨la, 0, none⟩) its.length lac := hd.get 3 (by kernel_rfl)
      have h25 : u 25 = .int .i64 (k : Int) := hd.get 6 (by kernel_rfl)
      clear hd
      simp only [h22, h25] at hK
      go_simp
      exact hK.out (.pointer (some ⟨la, k, none⟩)) rfl
    · show StepR _ _ _ _ _ _  _ -- 27
      unfold StepR
      intro q u w hj hd K hK
      have h26 : u 26 = .pointer (some ⟨la, k, none⟩) := hd.get 7 (by kernel_rfl)
      clear hd
      simp only [h26] at hK
      have hcell := cell_chg Hla2.out hj
      go_simp
      exact hK.out _ rfl
  · intro u w1 hj hA K hK
    have e27 : u 27 = .pointer (some ⟨its[k].a, 0, none⟩) := hA.at 27 (by kernel_rfl)
    clear hA
    have HBX2 : Hid (Bx w1 b 0 row p n xv) := HBX.out.keep hj (fun f => f)
    have HCD2 : Hid (Cod w0 w1 P av bv its a r v y e) := HCD.out.new hj
    have Hlb1 : Hid (w1.cell? ⟨P, 1, none⟩ = some (.slice (some ⟨lb, 0, none⟩) its.length lbc)) := cell_chg Hlb1.out hj
    have Hlb2 : Hid (w1.cell? ⟨lb, k, none⟩ = some (.pointer (some ⟨its[k].r, 0, none⟩))) := cell_chg Hlb2.out hj
    clear hj HBX HCD Hla1 Hla2
    go_simp
    refine hK.out _ _ ?_
    clear hK
    generalize w1 = wB at *
    have HBX := HBX2
    have HCD := HCD2
    clear HBX2 HCD2
    go_wp2_with fail
    refine wp_region_phase (mk := fun u => #[_, _, _, _, _, _, _, _, _, _, _, _, _, _, _, _, _, _, _, _, _, _, _, _, _, _, _, _, u 28, u 29, u 30, u 31, u 32, u 33, u 34, u 35, u 36, _, _, _, _, _, _, _, _, _, _, _, _, _, _, _, _, _, _, _, _, _, _, _, _, _, _, _, _, _, _, _, _, _, _, _, _, _, _, _, _, _, _, _, _, _, _, _, _, _, _, _, _, _, _, _, _, _, _, _, _, _, _, _, _, _, _, _, _, _, _, _, _, _, _, _, _, _, _, _, _, _, _, _, _, _, _, _, _, _, _, _, _, _, _, _, _, _, _, _, _, _, _, _, _, _, _, _, _, _, _, _, _, _, _, _, _, _, _, _, _, _, _, _, _, _, _, _, _, _, _, _, _, _, _, _, _, _, _, _, _]) (G := lookG [(28, .pointer (some ⟨P, 0, none⟩)), (29, .pointer (some ⟨P, 0, none⟩)), (30, .pointer (some ⟨P, 1, none⟩)), (31, .slice (some ⟨lb, 0, none⟩) its.length lbc), (32, .pointer (some ⟨P, 0, none⟩)), (33, .agg #[.int .i64 0, .int .i64 row, .int .i64 p, .int .i64 n, .int .i64 xv]), (34, .int .i64 (k : Int)), (35, .pointer (some ⟨lb, k, none⟩)), (36, .pointer (some ⟨its[k].r, 0, none⟩))]) (J := fun _ _ w => Chg (fun _ => False) wB w) [6] (fun _ => undef) rfl (by kernel_rfl) 9 _ rfl rfl (by kernel_rfl) (by kernel_rfl) (by kernel_rfl) (by decide) ?_ ?_ ?_ ?_ ?_
    · repeat (refine ⟨⟨_, rfl, fun _ _ => rfl⟩, ?_⟩)
      exact trivial
    · exact fun q u u2 w _ h => h
    · exact (Chg.refl _ wB).drew
    · refine ⟨?_, ?_, ?_, ?_, ?_, ?_, ?_, ?_, ?_, trivial⟩
      · show StepR _ _ _ _ _ _  _ -- 28
        unfold StepR
        intro q u w hj hd K hK
        clear hd
        go_simp
        exact hK.out (.pointer (some ⟨P, 0, none⟩)) rfl
      · show StepR _ _ _ _ _ _  _ -- 29
        unfold StepR
        intro q u w hj hd K hK
        have h28 : u 28 = .pointer (some ⟨P, 0, none⟩) := hd.get 0 (by kernel_rfl)
        clear hd
        simp only [h28] at hK
        go_simp
        exact hK.out (.pointer (some ⟨P, 0, none⟩)) rfl
      · show StepR _ _ _ _ _ _  _ -- 30
        unfold StepR
        intro q u w hj hd K hK
        have h29 : u 29 = .pointer (some ⟨P, 0, none⟩) := hd.get 1 (by kernel_rfl)
        clear hd
        simp only [h29] at hK
        go_simp
        exact hK.out (.pointer (some ⟨P, 1, none⟩)) rfl
      · show StepR _ _ _ _ _ _  _ -- 31
        unfold StepR
        intro q u w hj hd K hK
        have h30 : u 30 = .pointer (some ⟨P, 1, none⟩) := hd.get 2 (by kernel_rfl)
        clear hd
        simp only [h30] at hK
        have hcell := cell_chg Hlb1.out hj
        go_simp
        exact hK.out _ rfl
      · show StepR _ _ _ _ _ _  _ -- 32
        unfold StepR
        intro q u w hj hd K hK
        clear hd
        go_simp
        exact hK.out (.pointer (some ⟨P, 0, none⟩)) rfl
      · show StepR _ _ _ _ _ _  _ -- 33
        unfold StepR
        intro q u w hj hd K hK
        clear hd
        obtain ⟨b0, b1, b2, b3, b4⟩ := (HBX.out.keep hj (fun f => f)).cells
        go_simp
        exact hK.out _ rfl
      · show StepW _ _ _ _ _ _ 0 _ -- 34
        unfold StepW
        intro u w hj hd K hK
        have h32 : u 32 = .pointer (some ⟨P, 0, none⟩) := hd.get 4 (by kernel_rfl)
        have h33 : u 33 = .agg #[.int .i64 0, .int .i64 row, .int .i64 p, .int .i64 n, .int .i64 xv] := hd.get 5 (by kernel_rfl)
        clear hd
        simp only [h32, h33] at hK
        go_simp
        go_at_call 49
        refine (of_any w0 w P av bv its 0 row p n xv (HCD.out.play.new hj)).mono ?_
        rintro z w2 ⟨rfl, c2⟩
        rw [HKK.out]
        exact hK.out _ w2 (chg_then hj c2) rfl
      · show StepR _ _ _ _ _ _  _ -- 35
        unfold StepR
        intro q u w hj hd K hK
        have h31 : u 31 = .slice (some ⟨lb, 0, none⟩) its.length lbc := hd.get 3 (by kernel_rfl)
        have h34 : u 34 = .int .i64 (k : Int) := hd.get 6 (by kernel_rfl)
        clear hd
        simp only [h31, h34] at hK
        go_simp
        exact hK.out (.pointer (some ⟨lb, k, none⟩)) rfl
      · show StepR _ _ _ _ _ _  _ -- 36
        unfold StepR
        intro q u w hj hd K hK
        have h35 : u 35 = .pointer (some ⟨lb, k, none⟩) := hd.get 7 (by kernel_rfl)
        clear hd
        simp only [h35] at hK
        have hcell := cell_chg Hlb2.out hj
        go_simp
        exact hK.out _ rfl
    · intro u w1 hj hA K hK
      have e36 : u 36 = .pointer (some ⟨its[k].r, 0, none⟩) := hA.at 36 (by kernel_rfl)
      clear hA
      have HBX2 : Hid (Bx w1 b 0 row p n xv) := HBX.out.keep hj (fun f => f)
      have HCD2 : Hid (Cod w0 w1 P av bv its a r v y e) := HCD.out.new hj
      clear hj HBX HCD Hlb1 Hlb2
      go_simp
      refine hK.out _ _ ?_
      clear hK
      generalize w1 = wA at *
      have HBX := HBX2
      have HCD := HCD2
      clear HBX2 HCD2
      obtain ⟨b0, b1, b2, b3, b4⟩ := HBX.out.cells
      clear b1 b2 b3 b4
      go_wp2_with fail
      refine wp_region_phase (mk := fun u => #[_, _, _, _, _, _, _, _, _, _, _, _, _, _, _, _, _, _, _, _, _, _, _, _, _, _, _, _, _, _, _, _, _, _, _, _, _, _, _, _, _, u 41, u 42, u 43, u 44, u 45, u 46, u 47, u 48, u 49, u 50, u 51, u 52, u 53, u 54, u 55, u 56, u 57, u 58, u 59, _, _, _, _, _, _, _, _, _, _, _, _, _, _, _, _, _, _, _, _, _, _, _, _, _, _, _, _, _, _, _, _, _, _, _, _, _, _, _, _, _, _, _, _, _, _, _, _, _, _, _, _, _, _, _, _, _, _, _, _, _, _, _, _, _, _, _, _, _, _, _, _, _, _, _, _, _, _, _, _, _, _, _, _, _, _, _, _, _, _, _, _, _, _, _, _, _, _, _, _, _, _, _, _, _, _, _, _, _, _, _, _, _, _, _, _, _]) (G := lookG [(41, .pointer (some ⟨a, 0, none⟩)), (42, .pointer (some ⟨its[k].a, 0, none⟩)), (43, .pointer (some ⟨b, 2, none⟩)), (44, .int .i64 p), (45, .pointer (some ⟨b, 3, none⟩)), (46, .int .i64 n), (47, .pointer (some ⟨b, 4, none⟩)), (48, .int .i64 xv), (49, .int .i64 er), (50, .pointer (some ⟨r, 0, none⟩)), (51, .pointer (some ⟨its[k].r, 0, none⟩)), (52, .pointer (some ⟨b, 2, none⟩)), (53, .int .i64 p), (54, .pointer (some ⟨b, 3, none⟩)), (55, .int .i64 n), (56, .pointer (some ⟨b, 4, none⟩)), (57, .int .i64 xv), (58, .int .i64 er), (59, .bool true)]) (J := fun q _ w => Bx w b 0 row p n xv ∧ Ways w0 wA P av bv its k hk a r v y e e' xs' q w) [8, 17] (fun _ => undef) rfl (by kernel_rfl) 19 _ rfl rfl (by kernel_rfl) (by kernel_rfl) (by kernel_rfl) (by decide) ?_ ?_ ?_ ?_ ?_
      · repeat (refine ⟨⟨_, rfl, fun _ _ => rfl⟩, ?_⟩)
        exact trivial
      · exact fun q u u2 w _ h => h
      · exact ⟨HBX.out.keep (Chg.refl (fun _ => False) wA).drew (fun f => f), (Chg.refl _ wA).drew⟩
      · refine ⟨?_, ?_, ?_, ?_, ?_, ?_, ?_, ?_, ?_, ?_, ?_, ?_, ?_, ?_, ?_, ?_, ?_, ?_, ?_, trivial⟩
        · show StepR _ _ _ _ _ _  _ -- 41
          unfold StepR
          intro q u w hj hd K hK
          clear hd
          go_simp
          exact hK.out (.pointer (some ⟨a, 0, none⟩)) rfl
        · show StepR _ _ _ _ _ _  _ -- 42
          unfold StepR
          intro q u w hj hd K hK
          clear hd
          go_simp
          exact hK.out (.pointer (some ⟨its[k].a, 0, none⟩)) rfl
        · show StepR _ _ _ _ _ _  _ -- 43
          unfold StepR
          intro q u w hj hd K hK
          clear hd
          go_simp
          exact hK.out (.pointer (some ⟨b, 2, none⟩)) rfl
        · show StepR _ _ _ _ _ _  _ -- 44
          unfold StepR
          intro q u w hj hd K hK
          have h43 : u 43 = .pointer (some ⟨b, 2, none⟩) := hd.get 2 (by kernel_rfl)
          clear hd
          simp only [h43] at hK
          obtain ⟨b0, b1, b2, b3, b4⟩ := hj.1.cells
          go_simp
          exact hK.out _ rfl
        · show StepR _ _ _ _ _ _  _ -- 45
          unfold StepR
          intro q u w hj hd K hK
          clear hd
          go_simp
          exact hK.out (.pointer (some ⟨b, 3, none⟩)) rfl
        · show StepR _ _ _ _ _ _  _ -- 46
          unfold StepR
          intro q u w hj hd K hK
          have h45 : u 45 = .pointer (some ⟨b, 3, none⟩) := hd.get 4 (by kernel_rfl)
          clear hd
          simp only [h45] at hK
          obtain ⟨b0, b1, b2, b3, b4⟩ := hj.1.cells
          go_simp
          exact hK.out _ rfl
        · show StepR _ _ _ _ _ _  _ -- 47
          unfold StepR
          intro q u w hj hd K hK
          clear hd
          go_simp
          exact hK.out (.pointer (some ⟨b, 4, none⟩)) rfl
        · show StepR _ _ _ _ _ _  _ -- 48
          unfold StepR
          intro q u w hj hd K hK
          have h47 : u 47 = .pointer (some ⟨b, 4, none⟩) := hd.get 6 (by kernel_rfl)
          clear hd
          simp only [h47] at hK
          obtain ⟨b0, b1, b2, b3, b4⟩ := hj.1.cells
          go_simp
          exact hK.out _ rfl
        · show StepW _ _ _ _ _ _ 0 _ -- 49
          unfold StepW
          intro u w hj hd K hK
          have h41 : u 41 = .pointer (some ⟨a, 0, none⟩) := hd.get 0 (by kernel_rfl)
          have h42 : u 42 = .pointer (some ⟨its[k].a, 0, none⟩) := hd.get 1 (by kernel_rfl)
          have h44 : u 44 = .int .i64 p := hd.get 3 (by kernel_rfl)
          have h46 : u 46 = .int .i64 n := hd.get 5 (by kernel_rfl)
          have h48 : u 48 = .int .i64 xv := hd.get 7 (by kernel_rfl)
          clear hd
          simp only [h41, h42, h44, h46, h48] at hK
          obtain ⟨hb, hW⟩ := hj
          have hW : Chg (fun _ => False) wA w := hW
          go_simp
          go_at_call 14
          refine ((HPS.out : PSide _ _ _ _ _ _ _ _ _ _) w (HCD.out.new hW).enc ((HCD.out.new hW).play.good k hk).st (Nat.le_trans HCD.out.play.chg.size hW.size)).mono ?_
          rintro z w2 ⟨rfl, v', hE, hS, c2, hM⟩
          exact hK.out _ w2 ⟨hb.keep c2 (fun f => by have := sideP_lt HCW.out k hk _ f; have := HBL.out; omega), v', hE, hS, (hW.mono (fun _ f => f.elim)).trans c2 (fun z f => .inl f), moved_from hW.size hM⟩ rfl
        · show StepR _ _ _ _ _ _  _ -- 50
          unfold StepR
          intro q u w hj hd K hK
          clear hd
          go_simp
          exact hK.out (.pointer (some ⟨r, 0, none⟩)) rfl
        · show StepR _ _ _ _ _ _  _ -- 51
          unfold StepR
          intro q u w hj hd K hK
          clear hd
          go_simp
          exact hK.out (.pointer (some ⟨its[k].r, 0, none⟩)) rfl
        · show StepR _ _ _ _ _ _  _ -- 52
          unfold StepR
          intro q u w hj hd K hK
          clear hd
          go_simp
          exact hK.out (.pointer (some ⟨b, 2, none⟩)) rfl
        · show StepR _ _ _ _ _ _  _ -- 53
          unfold StepR
          intro q u w hj hd K hK
          have h52 : u 52 = .pointer (some ⟨b, 2, none⟩) := hd.get 11 (by kernel_rfl)
          clear hd
          simp only [h52] at hK
          obtain ⟨b0, b1, b2, b3, b4⟩ := hj.1.cells
          go_simp
          exact hK.out _ rfl
        · show StepR _ _ _ _ _ _  _ -- 54
          unfold StepR
          intro q u w hj hd K hK
          clear hd
          go_simp
          exact hK.out (.pointer (some ⟨b, 3, none⟩)) rfl
        · show StepR _ _ _ _ _ _  _ -- 55
          unfold StepR
          intro q u w hj hd K hK
          have h54 : u 54 = .pointer (some ⟨b, 3, none⟩) := hd.get 13 (by kernel_rfl)
          clear hd
          simp only [h54] at hK
          obtain ⟨b0, b1, b2, b3, b4⟩ := hj.1.cells
          go_simp
          exact hK.out _ rfl
        · show StepR _ _ _ _ _ _  _ -- 56
          unfold StepR
          intro q u w hj hd K hK
          clear hd
          go_simp
          exact hK.out (.pointer (some ⟨b, 4, none⟩)) rfl
        · show StepR _ _ _ _ _ _  _ -- 57
          unfold StepR
          intro q u w hj hd K hK
          have h56 : u 56 = .pointer (some ⟨b, 4, none⟩) := hd.get 15 (by kernel_rfl)
          clear hd
          simp only [h56] at hK
          obtain ⟨b0, b1, b2, b3, b4⟩ := hj.1.cells
          go_simp
          exact hK.out _ rfl
        · show StepW _ _ _ _ _ _ 1 _ -- 58
          unfold StepW
          intro u w hj hd K hK
          have h50 : u 50 = .pointer (some ⟨r, 0, none⟩) := hd.get 9 (by kernel_rfl)
          have h51 : u 51 = .pointer (some ⟨its[k].r, 0, none⟩) := hd.get 10 (by kernel_rfl)
          have h53 : u 53 = .int .i64 p := hd.get 12 (by kernel_rfl)
          have h55 : u 55 = .int .i64 n := hd.get 14 (by kernel_rfl)
          have h57 : u 57 = .int .i64 xv := hd.get 16 (by kernel_rfl)
          clear hd
          simp only [h50, h51, h53, h55, h57] at hK
          obtain ⟨hb, v', hE, hS, hW, hM⟩ := hj
          obtain ⟨hR, hT⟩ := HCD.out.side k hk hW
          go_simp
          go_at_call 57
          refine ((HRS.out : RSide _ _ _ _ _ _ _ _ _ _) w hR hT (Nat.le_trans HCD.out.play.chg.size hW.size)).mono ?_
          rintro z w2 ⟨rfl, y', hR2, hT2, c2, hM2⟩
          exact hK.out _ w2 ⟨hb.keep c2 (fun f => by have := sideR_lt HCW.out k hk _ f; have := HBL.out; omega), v', y', HCD.out.done k hk xs' hW hE hS hM c2 hR2 hT2 hM2 HOK.out.1 HOK.out.2.1 HOK.out.2.2⟩ rfl
        · show StepR _ _ _ _ _ _  _ -- 59
          unfold StepR
          intro q u w hj hd K hK
          have h49 : u 49 = .int .i64 er := hd.get 8 (by kernel_rfl)
          have h58 : u 58 = .int .i64 er := hd.get 17 (by kernel_rfl)
          clear hd
          simp only [h49, h58] at hK
          go_simp
          exact hK.out (.bool true) rfl
      · intro u w1 hj hA K hK
        have e_ : u 59 = .bool true := hA.at 59 (by kernel_rfl)
        clear hA
        obtain ⟨_, v', y', hCE⟩ := hj
        have HCE : Hid (Cod w0 w1 P av bv (its.set k (its[k].to xs')) a r v' y' e') := hCE
        clear hCE
        go_simp
        refine hK.out _ _ ?_
        go_wp2
        go_ret
        exact ⟨rfl, v', y', HCE.out⟩
set_option maxHeartbeats 8000000 in
set_option maxRecDepth 100000 in
theorem codes_1 (w0 w : World) (P : Nat) (av bv : Value) (its : List It) (a r : Nat) (v y : Value) (e : Rc.E) (row p n xv : Int) (k : Nat) (hk : k < its.length) (hkk : ofN its.length row = k) (h : Cod w0 w P av bv its a r v y e) (er : Int) (e' : Rc.E) (xs' : List Int) (hP : PSide 13 #[.pointer (some ⟨a, 0, none⟩), .pointer (some ⟨its[k].a, 0, none⟩), .int .i64 p, .int .i64 n, .int .i64 xv] w0.heap.size a v its[k] e er e' xs') (hR : RSide 57 #[.pointer (some ⟨r, 0, none⟩), .pointer (some ⟨its[k].r, 0, none⟩), .int .i64 p, .int .i64 n, .int .i64 xv, .bool true] w0.heap.size r y its[k] e er e' xs') (hO : Rc.Ok e') (hI : In31 xs') (hl : xs'.length = its[k].xs.length) :
    Calls Try.prog 28 #[.pointer (some ⟨P, 0, none⟩), .pointer (some ⟨a, 0, none⟩), .pointer (some ⟨r, 0, none⟩), .agg #[.int .i64 1, .int .i64 row, .int .i64 p, .int .i64 n, .int .i64 xv]] w fun z w' => z = .returned (.bool true) ∧ ∃ v' y', Cod w0 w' P av bv (its.set k (its[k].to xs')) a r v' y' e' := by
  have HPS : Hid (PSide 13 #[.pointer (some ⟨a, 0, none⟩), .pointer (some ⟨its[k].a, 0, none⟩), .int .i64 p, .int .i64 n, .int .i64 xv] w0.heap.size a v its[k] e er e' xs') := hP
  have HRS : Hid (RSide 57 #[.pointer (some ⟨r, 0, none⟩), .pointer (some ⟨its[k].r, 0, none⟩), .int .i64 p, .int .i64 n, .int .i64 xv, .bool true] w0.heap.size r y its[k] e er e' xs') := hR
  have HOK : Hid (Rc.Ok e' ∧ In31 xs' ∧ xs'.length = its[k].xs.length) := ⟨hO, hI, hl⟩
  have HKK : Hid (ofN its.length row = k) := hkk
  have HCW : Hid (Cod w0 w P av bv its a r v y e) := h
  obtain ⟨la, lac, hav, hlac, hga⟩ := h.play.a_at (by omega)
  obtain ⟨lb, lbc, hbv, hlbc, hgb⟩ := h.play.b_at (by omega)
  have cw := chg_one w (.cells #[.int .i64 1, .int .i64 row, .int .i64 p, .int .i64 n, .int .i64 xv] 50)
  have HBX : Hid (Bx (w.alloc (.cells #[.int .i64 1, .int .i64 row, .int .i64 p, .int .i64 n, .int .i64 xv] 50)) w.heap.size 1 row p n xv) := ⟨heap_alloc_last w _⟩
  have HCD : Hid (Cod w0 (w.alloc (.cells #[.int .i64 1, .int .i64 row, .int .i64 p, .int .i64 n, .int .i64 xv] 50)) P av bv its a r v y e) := h.new cw
  have hlaw := hga k hk
  have hlbw := hgb k hk
  have hpa := cell0 h.play.pair
  have hpb := cell1 h.play.pair
  rw [hav] at hpa
  rw [hbv] at hpb
  have Hla1 : Hid ((w.alloc (.cells #[.int .i64 1, .int .i64 row, .int .i64 p, .int .i64 n, .int .i64 xv] 50)).cell? ⟨P, 0, none⟩ = some (.slice (some ⟨la, 0, none⟩) its.length lac)) := cell_chg hpa cw
  have Hlb1 : Hid ((w.alloc (.cells #[.int .i64 1, .int .i64 row, .int .i64 p, .int .i64 n, .int .i64 xv] 50)).cell? ⟨P, 1, none⟩ = some (.slice (some ⟨lb, 0, none⟩) its.length lbc)) := cell_chg hpb cw
  have Hla2 : Hid ((w.alloc (.cells #[.int .i64 1, .int .i64 row, .int .i64 p, .int .i64 n, .int .i64 xv] 50)).cell? ⟨la, k, none⟩ = some (.pointer (some ⟨its[k].a, 0, none⟩))) := cell_chg hlaw cw
  have Hlb2 : Hid ((w.alloc (.cells #[.int .i64 1, .int .i64 row, .int .i64 p, .int .i64 n, .int .i64 xv] 50)).cell? ⟨lb, k, none⟩ = some (.pointer (some ⟨its[k].r, 0, none⟩))) := cell_chg hlbw cw
  have hkL : (k : Int) < (its.length : Int) := by omega
  clear hP hR hO hI hl hkk h hav hbv hga hgb cw hlaw hlbw hpa hpb
  go_enter Try.func28, Try.ntmps28
  go_wp2_with fail
  generalize w.alloc (.cells #[.int .i64 1, .int .i64 row, .int .i64 p, .int .i64 n, .int .i64 xv] 50) = wB at *
  obtain ⟨b, hb⟩ : ∃ b, w.heap.size = b := ⟨_, rfl⟩
  have HBL : Hid (w.heap.size = b) := hb
  rw [hb] at HBX ⊢
  clear hb
  refine wp_region_phase (mk := fun u => #[_, _, _, _, _, _, _, _, _, _, _, _, _, _, _, _, _, _, _, u 19, u 20, u 21, u 22, u 23, u 24, u 25, u 26, u 27, _, _, _, _, _, _, _, _, _, _, _, _, _, _, _, _, _, _, _, _, _, _, _, _, _, _, _, _, _, _, _, _, _, _, _, _, _, _, _, _, _, _, _, _, _, _, _, _, _, _, _, _, _, _, _, _, _, _, _, _, _, _, _, _, _, _, _, _, _, _, _, _, _, _, _, _, _, _, _, _, _, _, _, _, _, _, _, _, _, _, _, _, _, _, _, _, _, _, _, _, _, _, _, _, _, _, _, _, _, _, _, _, _, _, _, _, _, _, _, _, _, _, _, _, _, _, _, _, _, _, _, _, _, _, _, _, _, _, _, _, _, _, _, _, _, _, _, _, _]) (G := lookG [(19, .pointer (some ⟨P, 0, none⟩)), (20, .pointer (some ⟨P, 0, none⟩)), (21, .pointer (some ⟨P, 0, none⟩)), (22, .slice (some ⟨la, 0, none⟩) its.length lac), (23, .pointer (some ⟨P, 0, none⟩)), (24, .agg #[.int .i64 1, .int .i64 row, .int .i64 p, .int .i64 n, .int .i64 xv]), (25, .int .i64 (k : Int)), (26, .pointer (some ⟨la, k, none⟩)), (27, .pointer (some ⟨its[k].a, 0, none⟩))]) (J := fun _ _ w => Chg (fun _ => False) wB w) [6] (fun _ => undef) rfl (by kernel_rfl) 9 _ rfl rfl (by kernel_rfl) (by kernel_rfl) (by kernel_rfl) (by decide) ?_ ?_ ?_ ?_ ?_
  · repeat (refine ⟨⟨_, rfl, fun _ _ => rfl⟩, ?_⟩)
    exact trivial
  · exact fun q u u2 w _ h => h
  · exact (Chg.refl _ wB).drew
  · refine ⟨?_, ?_, ?_, ?_, ?_, ?_, ?_, ?_, ?_, trivial⟩
    · show StepR _ _ _ _ _ _  _ -- 19
      unfold StepR
      intro q u w hj hd K hK
      clear hd
      go_simp
      exact hK.out (.pointer (some ⟨P, 0, none⟩)) rfl
    · show StepR _ _ _ _ _ _  _ -- 20
      unfold StepR
      intro q u w hj hd K hK
      have h19 : u 19 = .pointer (some ⟨P, 0, none⟩) := hd.get 0 (by kernel_rfl)
      clear hd
      simp only [h19] at hK
      go_simp
      exact hK.out (.pointer (some ⟨P, 0, none⟩)) rfl
    · show StepR _ _ _ _ _ _  _ -- 21
      unfold StepR
      intro q u w hj hd K hK
      have h20 : u 20 = .pointer (some ⟨P, 0, none⟩) := hd.get 1 (by kernel_rfl)
      clear hd
      simp only [h20] at hK
      go_simp
      exact hK.out (.pointer (some ⟨P, 0, none⟩)) rfl
    · show StepR _ _ _ _ _ _  _ -- 22
      unfold StepR
      intro q u w hj hd K hK
      have h21 : u 21 = .pointer (some ⟨P, 0, none⟩) := hd.get 2 (by kernel_rfl)
      clear hd
      simp only [h21] at hK
      have hcell := cell_chg Hla1.out hj
      go_simp
      exact hK.out _ rfl
    · show StepR _ _ _ _ _ _  _ -- 23
      unfold StepR
      intro q u w hj hd K hK
      clear hd
      go_simp
      exact hK.out (.pointer (some ⟨P, 0, none⟩)) rfl
    · show StepR _ _ _ _ _ _  _ -- 24
      unfold StepR
      intro q u w hj hd K hK
      clear hd
      obtain ⟨b0, b1, b2, b3, b4⟩ := (HBX.out.keep hj (fun f => f)).cells
      go_simp
      exact hK.out _ rfl
    · show StepW _ _ _ _ _ _ 0 _ -- 25
      unfold StepW
      intro u w hj hd K hK
      have h23 : u 23 = .pointer (some ⟨P, 0, none⟩) := hd.get 4 (by kernel_rfl)
      have h24 : u 24 = .agg #[.int .i64 1, .int .i64 row, .int .i64 p, .int .i64 n, .int .i64 xv] := hd.get 5 (by kernel_rfl)
      clear hd
      simp only [h23, h24] at hK
      go_simp
      go_at_call 49
      refine (of_any w0 w P av bv its 1 row p n xv (HCD.out.play.new hj)).mono ?_
      rintro z w2 ⟨rfl, c2⟩
      rw [HKK.out]
      exact hK.out _ w2 (chg_then hj c2) rfl
    · show StepR _ _ _ _ _ _  _ -- 26
      unfold StepR
      intro q u w hj hd K hK
      have h22 : u 22 = .slice (some ⟨la, 0, none⟩) its.length lac := hd.get 3 (by kernel_rfl)
      have h25 : u 25 = .int .i64 (k : Int) := hd.get 6 (by kernel_rfl)
      clear hd
      simp only [h22, h25] at hK
      go_simp
      exact hK.out (.pointer (some ⟨la, k, none⟩)) rfl
    · show StepR _ _ _ _ _ _  _ -- 27
      unfold StepR
      intro q u w hj hd K hK
      have h26 : u 26 = .pointer (some ⟨la, k, none⟩) := hd.get 7 (by kernel_rfl)
      clear hd
      simp only [h26] at hK
      have hcell := cell_chg Hla2.out hj
      go_simp
      exact hK.out _ rfl
  · intro u w1 hj hA K hK
    have e27 : u 27 = .pointer (some ⟨its[k].a, 0, none⟩) := hA.at 27 (by kernel_rfl)
    clear hA
    have HBX2 : Hid (Bx w1 b 1 row p n xv) := HBX.out.keep hj (fun f => f)
    have HCD2 : Hid (Cod w0 w1 P av bv its a r v y e) := HCD.out.new hj
    have Hlb1 : Hid (w1.cell? ⟨P, 1, none⟩ = some (.slice (some ⟨lb, 0, none⟩) its.length lbc)) := cell_chg Hlb1.out hj
    have Hlb2 : Hid (w1.cell? ⟨lb, k, none⟩ = some (.pointer (some ⟨its[k].r, 0, none⟩))) := cell_chg Hlb2.out hj
    clear hj HBX HCD Hla1 Hla2
    go_simp
    refine hK.out _ _ ?_
    clear hK
    generalize w1 = wB at *
    have HBX := HBX2
    have HCD := HCD2
    clear HBX2 HCD2
    go_wp2_with fail
    refine wp_region_phase (mk := fun u => #[_, _, _, _, _, _, _, _, _, _, _, _, _, _, _, _, _, _, _, _, _, _, _, _, _, _, _, _, u 28, u 29, u 30, u 31, u 32, u 33, u 34, u 35, u 36, _, _, _, _, _, _, _, _, _, _, _, _, _, _, _, _, _, _, _, _, _, _, _, _, _, _, _, _, _, _, _, _, _, _, _, _, _, _, _, _, _, _, _, _, _, _, _, _, _, _, _, _, _, _, _, _, _, _, _, _, _, _, _, _, _, _, _, _, _, _, _, _, _, _, _, _, _, _, _, _, _, _, _, _, _, _, _, _, _, _, _, _, _, _, _, _, _, _, _, _, _, _, _, _, _, _, _, _, _, _, _, _, _, _, _, _, _, _, _, _, _, _, _, _, _, _, _, _, _, _, _, _, _, _, _, _, _, _, _, _]) (G := lookG [(28, .pointer (some ⟨P, 0, none⟩)), (29, .pointer (some ⟨P, 0, none⟩)), (30, .pointer (some ⟨P, 1, none⟩)), (31, .slice (some ⟨lb, 0, none⟩) its.length lbc), (32, .pointer (some ⟨P, 0, none⟩)), (33, .agg #[.int .i64 1, .int .i64 row, .int .i64 p, .int .i64 n, .int .i64 xv]), (34, .int .i64 (k : Int)), (35, .pointer (some ⟨lb, k, none⟩)), (36, .pointer (some ⟨its[k].r, 0, none⟩))]) (J := fun _ _ w => Chg (fun _ => False) wB w) [6] (fun _ => undef) rfl (by kernel_rfl) 9 _ rfl rfl (by kernel_rfl) (by kernel_rfl) (by kernel_rfl) (by decide) ?_ ?_ ?_ ?_ ?_
    · repeat (refine ⟨⟨_, rfl, fun _ _ => rfl⟩, ?_⟩)
      exact trivial
    · exact fun q u u2 w _ h => h
    · exact (Chg.refl _ wB).drew
    · refine ⟨?_, ?_, ?_, ?_, ?_, ?_, ?_, ?_, ?_, trivial⟩
      · show StepR _ _ _ _ _ _  _ -- 28
        unfold StepR
        intro q u w hj hd K hK
        clear hd
        go_simp
        exact hK.out (.pointer (some ⟨P, 0, none⟩)) rfl
      · show StepR _ _ _ _ _ _  _ -- 29
        unfold StepR
        intro q u w hj hd K hK
        have h28 : u 28 = .pointer (some ⟨P, 0, none⟩) := hd.get 0 (by kernel_rfl)
        clear hd
        simp only [h28] at hK
        go_simp
        exact hK.out (.pointer (some ⟨P, 0, none⟩)) rfl
      · show StepR _ _ _ _ _ _  _ -- 30
        unfold StepR
        intro q u w hj hd K hK
        have h29 : u 29 = .pointer (some ⟨P, 0, none⟩) := hd.get 1 (by kernel_rfl)
        clear hd
        simp only [h29] at hK
        go_simp
        exact hK.out (.pointer (some ⟨P, 1, none⟩)) rfl
      · show StepR _ _ _ _ _ _  _ -- 31
        unfold StepR
        intro q u w hj hd K hK
        have h30 : u 30 = .pointer (some ⟨P, 1, none⟩) := hd.get 2 (by kernel_rfl)
        clear hd
        simp only [h30] at hK
        have hcell := cell_chg Hlb1.out hj
        go_simp
        exact hK.out _ rfl
      · show StepR _ _ _ _ _ _  _ -- 32
        unfold StepR
        intro q u w hj hd K hK
        clear hd
        go_simp
        exact hK.out (.pointer (some ⟨P, 0, none⟩)) rfl
      · show StepR _ _ _ _ _ _  _ -- 33
        unfold StepR
        intro q u w hj hd K hK
        clear hd
        obtain ⟨b0, b1, b2, b3, b4⟩ := (HBX.out.keep hj (fun f => f)).cells
        go_simp
        exact hK.out _ rfl
      · show StepW _ _ _ _ _ _ 0 _ -- 34
        unfold StepW
        intro u w hj hd K hK
        have h32 : u 32 = .pointer (some ⟨P, 0, none⟩) := hd.get 4 (by kernel_rfl)
        have h33 : u 33 = .agg #[.int .i64 1, .int .i64 row, .int .i64 p, .int .i64 n, .int .i64 xv] := hd.get 5 (by kernel_rfl)
        clear hd
        simp only [h32, h33] at hK
        go_simp
        go_at_call 49
        refine (of_any w0 w P av bv its 1 row p n xv (HCD.out.play.new hj)).mono ?_
        rintro z w2 ⟨rfl, c2⟩
        rw [HKK.out]
        exact hK.out _ w2 (chg_then hj c2) rfl
      · show StepR _ _ _ _ _ _  _ -- 35
        unfold StepR
        intro q u w hj hd K hK
        have h31 : u 31 = .slice (some ⟨lb, 0, none⟩) its.length lbc := hd.get 3 (by kernel_rfl)
        have h34 : u 34 = .int .i64 (k : Int) := hd.get 6 (by kernel_rfl)
        clear hd
        simp only [h31, h34] at hK
        go_simp
        exact hK.out (.pointer (some ⟨lb, k, none⟩)) rfl
      · show StepR _ _ _ _ _ _  _ -- 36
        unfold StepR
        intro q u w hj hd K hK
        have h35 : u 35 = .pointer (some ⟨lb, k, none⟩) := hd.get 7 (by kernel_rfl)
        clear hd
        simp only [h35] at hK
        have hcell := cell_chg Hlb2.out hj
        go_simp
        exact hK.out _ rfl
    · intro u w1 hj hA K hK
      have e36 : u 36 = .pointer (some ⟨its[k].r, 0, none⟩) := hA.at 36 (by kernel_rfl)
      clear hA
      have HBX2 : Hid (Bx w1 b 1 row p n xv) := HBX.out.keep hj (fun f => f)
      have HCD2 : Hid (Cod w0 w1 P av bv its a r v y e) := HCD.out.new hj
      clear hj HBX HCD Hlb1 Hlb2
      go_simp
      refine hK.out _ _ ?_
      clear hK
      generalize w1 = wA at *
      have HBX := HBX2
      have HCD := HCD2
      clear HBX2 HCD2
      obtain ⟨b0, b1, b2, b3, b4⟩ := HBX.out.cells
      clear b1 b2 b3 b4
      go_wp2_with fail
      refine wp_region_phase (mk := fun u => #[_, _, _, _, _, _, _, _, _, _, _, _, _, _, _, _, _, _, _, _, _, _, _, _, _, _, _, _, _, _, _, _, _, _, _, _, _, _, _, _, _, _, _, _, _, _, _, _, _, _, _, _, _, _, _, _, _, _, _, _, _, _, u 62, u 63, u 64, u 65, u 66, u 67, u 68, u 69, u 70, u 71, u 72, u 73, u 74, u 75, u 76, u 77, u 78, u 79, u 80, _, _, _, _, _, _, _, _, _, _, _, _, _, _, _, _, _, _, _, _, _, _, _, _, _, _, _, _, _, _, _, _, _, _, _, _, _, _, _, _, _, _, _, _, _, _, _, _, _, _, _, _, _, _, _, _, _, _, _, _, _, _, _, _, _, _, _, _, _, _, _, _, _, _, _, _, _, _, _, _, _, _, _, _, _, _, _, _, _, _, _, _, _, _, _, _]) (G := lookG [(62, .pointer (some ⟨a, 0, none⟩)), (63, .pointer (some ⟨its[k].a, 0, none⟩)), (64, .pointer (some ⟨b, 2, none⟩)), (65, .int .i64 p), (66, .pointer (some ⟨b, 3, none⟩)), (67, .int .i64 n), (68, .pointer (some ⟨b, 4, none⟩)), (69, .int .i64 xv), (70, .int .i64 er), (71, .pointer (some ⟨r, 0, none⟩)), (72, .pointer (some ⟨its[k].r, 0, none⟩)), (73, .pointer (some ⟨b, 2, none⟩)), (74, .int .i64 p), (75, .pointer (some ⟨b, 3, none⟩)), (76, .int .i64 n), (77, .pointer (some ⟨b, 4, none⟩)), (78, .int .i64 xv), (79, .int .i64 er), (80, .bool true)]) (J := fun q _ w => Bx w b 1 row p n xv ∧ Ways w0 wA P av bv its k hk a r v y e e' xs' q w) [8, 17] (fun _ => undef) rfl (by kernel_rfl) 19 _ rfl rfl (by kernel_rfl) (by kernel_rfl) (by kernel_rfl) (by decide) ?_ ?_ ?_ ?_ ?_
      · repeat (refine ⟨⟨_, rfl, fun _ _ => rfl⟩, ?_⟩)
        exact trivial
      · exact fun q u u2 w _ h => h
      · exact ⟨HBX.out.keep (Chg.refl (fun _ => False) wA).drew (fun f => f), (Chg.refl _ wA).drew⟩
      · refine ⟨?_, ?_, ?_, ?_, ?_, ?_, ?_, ?_, ?_, ?_, ?_, ?_, ?_, ?_, ?_, ?_, ?_, ?_, ?_, trivial⟩
        · show StepR _ _ _ _ _ _  _ -- 62
          unfold StepR
          intro q u w hj hd K hK
          clear hd
          go_simp
          exact hK.out (.pointer (some ⟨a, 0, none⟩)) rfl
        · show StepR _ _ _ _ _ _  _ -- 63
          unfold StepR
          intro q u w hj hd K hK
          clear hd
          go_simp
          exact hK.out (.pointer (some ⟨its[k].a, 0, none⟩)) rfl
        · show StepR _ _ _ _ _ _  _ -- 64
          unfold StepR
          intro q u w hj hd K hK
          clear hd
          go_simp
          exact hK.out (.pointer (some ⟨b, 2, none⟩)) rfl
        · show StepR _ _ _ _ _ _  _ -- 65
          unfold StepR
          intro q u w hj hd K hK
          have h64 : u 64 = .pointer (some ⟨b, 2, none⟩) := hd.get 2 (by kernel_rfl)
          clear hd
          simp only [h64] at hK
          obtain ⟨b0, b1, b2, b3, b4⟩ := hj.1.cells
          go_simp
          exact hK.out _ rfl
        · show StepR _ _ _ _ _ _  _ -- 66
          unfold StepR
          intro q u w hj hd K hK
          clear hd
          go_simp
          exact hK.out (.pointer (some ⟨b, 3, none⟩)) rfl
        · show StepR _ _ _ _ _ _  _ -- 67
          unfold StepR
          intro q u w hj hd K hK
          have h66 : u 66 = .pointer (some ⟨b, 3, none⟩) := hd.get 4 (by kernel_rfl)
          clear hd
          simp only [h66] at hK
          obtain ⟨b0, b1, b2, b3, b4⟩ := hj.1.cells
          go_simp
          exact hK.out _ rfl
        · show StepR _ _ _ _ _ _  _ -- 68
          unfold StepR
          intro q u w hj hd K hK
          clear hd
          go_simp
          exact hK.out (.pointer (some ⟨b, 4, none⟩)) rfl
        · show StepR _ _ _ _ _ _  _ -- 69
          unfold StepR
          intro q u w hj hd K hK
          have h68 : u 68 = .pointer (some ⟨b, 4, none⟩) := hd.get 6 (by kernel_rfl)
          clear hd
          simp only [h68] at hK
          obtain ⟨b0, b1, b2, b3, b4⟩ := hj.1.cells
          go_simp
          exact hK.out _ rfl
        · show StepW _ _ _ _ _ _ 0 _ -- 70
          unfold StepW
          intro u w hj hd K hK
          have h62 : u 62 = .pointer (some ⟨a, 0, none⟩) := hd.get 0 (by kernel_rfl)
          have h63 : u 63 = .pointer (some ⟨its[k].a, 0, none⟩) := hd.get 1 (by kernel_rfl)
          have h65 : u 65 = .int .i64 p := hd.get 3 (by kernel_rfl)
          have h67 : u 67 = .int .i64 n := hd.get 5 (by kernel_rfl)
          have h69 : u 69 = .int .i64 xv := hd.get 7 (by kernel_rfl)
          clear hd
          simp only [h62, h63, h65, h67, h69] at hK
          obtain ⟨hb, hW⟩ := hj
          have hW : Chg (fun _ => False) wA w := hW
          go_simp
          go_at_call 13
          refine ((HPS.out : PSide _ _ _ _ _ _ _ _ _ _) w (HCD.out.new hW).enc ((HCD.out.new hW).play.good k hk).st (Nat.le_trans HCD.out.play.chg.size hW.size)).mono ?_
          rintro z w2 ⟨rfl, v', hE, hS, c2, hM⟩
          exact hK.out _ w2 ⟨hb.keep c2 (fun f => by have := sideP_lt HCW.out k hk _ f; have := HBL.out; omega), v', hE, hS, (hW.mono (fun _ f => f.elim)).trans c2 (fun z f => .inl f), moved_from hW.size hM⟩ rfl
        · show StepR _ _ _ _ _ _  _ -- 71
          unfold StepR
          intro q u w hj hd K hK
          clear hd
          go_simp
          exact hK.out (.pointer (some ⟨r, 0, none⟩)) rfl
        · show StepR _ _ _ _ _ _  _ -- 72
          unfold StepR
          intro q u w hj hd K hK
          clear hd
          go_simp
          exact hK.out (.pointer (some ⟨its[k].r, 0, none⟩)) rfl
        · show StepR _ _ _ _ _ _  _ -- 73
          unfold StepR
          intro q u w hj hd K hK
          clear hd
          go_simp
          exact hK.out (.pointer (some ⟨b, 2, none⟩)) rfl
        · show StepR _ _ _ _ _ _  _ -- 74
          unfold StepR
          intro q u w hj hd K hK
          have h73 : u 73 = .pointer (some ⟨b, 2, none⟩) := hd.get 11 (by kernel_rfl)
          clear hd
          simp only [h73] at hK
          obtain ⟨b0, b1, b2, b3, b4⟩ := hj.1.cells
          go_simp
          exact hK.out _ rfl
        · show StepR _ _ _ _ _ _  _ -- 75
          unfold StepR
          intro q u w hj hd K hK
          clear hd
          go_simp
          exact hK.out (.pointer (some ⟨b, 3, none⟩)) rfl
        · show StepR _ _ _ _ _ _  _ -- 76
          unfold StepR
          intro q u w hj hd K hK
          have h75 : u 75 = .pointer (some ⟨b, 3, none⟩) := hd.get 13 (by kernel_rfl)
          clear hd
          simp only [h75] at hK
          obtain ⟨b0, b1, b2, b3, b4⟩ := hj.1.cells
          go_simp
          exact hK.out _ rfl
        · show StepR _ _ _ _ _ _  _ -- 77
          unfold StepR
          intro q u w hj hd K hK
          clear hd
          go_simp
          exact hK.out (.pointer (some ⟨b, 4, none⟩)) rfl
        · show StepR _ _ _ _ _ _  _ -- 78
          unfold StepR
          intro q u w hj hd K hK
          have h77 : u 77 = .pointer (some ⟨b, 4, none⟩) := hd.get 15 (by kernel_rfl)
          clear hd
          simp only [h77] at hK
          obtain ⟨b0, b1, b2, b3, b4⟩ := hj.1.cells
          go_simp
          exact hK.out _ rfl
        · show StepW _ _ _ _ _ _ 1 _ -- 79
          unfold StepW
          intro u w hj hd K hK
          have h71 : u 71 = .pointer (some ⟨r, 0, none⟩) := hd.get 9 (by kernel_rfl)
          have h72 : u 72 = .pointer (some ⟨its[k].r, 0, none⟩) := hd.get 10 (by kernel_rfl)
          have h74 : u 74 = .int .i64 p := hd.get 12 (by kernel_rfl)
          have h76 : u 76 = .int .i64 n := hd.get 14 (by kernel_rfl)
          have h78 : u 78 = .int .i64 xv := hd.get 16 (by kernel_rfl)
          clear hd
          simp only [h71, h72, h74, h76, h78] at hK
          obtain ⟨hb, v', hE, hS, hW, hM⟩ := hj
          obtain ⟨hR, hT⟩ := HCD.out.side k hk hW
          go_simp
          go_at_call 57
          refine ((HRS.out : RSide _ _ _ _ _ _ _ _ _ _) w hR hT (Nat.le_trans HCD.out.play.chg.size hW.size)).mono ?_
          rintro z w2 ⟨rfl, y', hR2, hT2, c2, hM2⟩
          exact hK.out _ w2 ⟨hb.keep c2 (fun f => by have := sideR_lt HCW.out k hk _ f; have := HBL.out; omega), v', y', HCD.out.done k hk xs' hW hE hS hM c2 hR2 hT2 hM2 HOK.out.1 HOK.out.2.1 HOK.out.2.2⟩ rfl
        · show StepR _ _ _ _ _ _  _ -- 80
          unfold StepR
          intro q u w hj hd K hK
          have h70 : u 70 = .int .i64 er := hd.get 8 (by kernel_rfl)
          have h79 : u 79 = .int .i64 er := hd.get 17 (by kernel_rfl)
          clear hd
          simp only [h70, h79] at hK
          go_simp
          exact hK.out (.bool true) rfl
      · intro u w1 hj hA K hK
        have e_ : u 80 = .bool true := hA.at 80 (by kernel_rfl)
        clear hA
        obtain ⟨_, v', y', hCE⟩ := hj
        have HCE : Hid (Cod w0 w1 P av bv (its.set k (its[k].to xs')) a r v' y' e') := hCE
        clear hCE
        go_simp
        refine hK.out _ _ ?_
        go_wp2
        go_ret
        exact ⟨rfl, v', y', HCE.out⟩
set_option maxHeartbeats 8000000 in
set_option maxRecDepth 100000 in
theorem codes_3 (w0 w : World) (P : Nat) (av bv : Value) (its : List It) (a r : Nat) (v y : Value) (e : Rc.E) (row p n xv : Int) (k : Nat) (hk : k < its.length) (hkk : ofN its.length row = k) (h : Cod w0 w P av bv its a r v y e) (er : Int) (e' : Rc.E) (xs' : List Int) (hP : PSide 43 #[.pointer (some ⟨a, 0, none⟩), .pointer (some ⟨its[k].a, 0, none⟩), .int .i64 p, .int .i64 xv] w0.heap.size a v its[k] e er e' xs') (hR : RSide 58 #[.pointer (some ⟨r, 0, none⟩), .pointer (some ⟨its[k].r, 0, none⟩), .int .i64 p, .int .i64 xv] w0.heap.size r y its[k] e er e' xs') (hO : Rc.Ok e') (hI : In31 xs') (hl : xs'.length = its[k].xs.length) :
    Calls Try.prog 28 #[.pointer (some ⟨P, 0, none⟩), .pointer (some ⟨a, 0, none⟩), .pointer (some ⟨r, 0, none⟩), .agg #[.int .i64 3, .int .i64 row, .int .i64 p, .int .i64 n, .int .i64 xv]] w fun z w' => z = .returned (.bool true) ∧ ∃ v' y', Cod w0 w' P av bv (its.set k (its[k].to xs')) a r v' y' e' := by
  have HPS : Hid (PSide 43 #[.pointer (some ⟨a, 0, none⟩), .pointer (some ⟨its[k].a, 0, none⟩), .int .i64 p, .int .i64 xv] w0.heap.size a v its[k] e er e' xs') := hP
  have HRS : Hid (RSide 58 #[.pointer (some ⟨r, 0, none⟩), .pointer (some ⟨its[k].r, 0, none⟩), .int .i64 p, .int .i64 xv] w0.heap.size r y its[k] e er e' xs') := hR
  have HOK : Hid (Rc.Ok e' ∧ In31 xs' ∧ xs'.length = its[k].xs.length) := ⟨hO, hI, hl⟩
  have HKK : Hid (ofN its.length row = k) := hkk
  have HCW : Hid (Cod w0 w P av bv its a r v y e) := h
  obtain ⟨la, lac, hav, hlac, hga⟩ := h.play.a_at (by omega)
  obtain ⟨lb, lbc, hbv, hlbc, hgb⟩ := h.play.b_at (by omega)
  have cw := chg_one w (.cells #[.int .i64 3, .int .i64 row, .int .i64 p, .int .i64 n, .int .i64 xv] 50)
  have HBX : Hid (Bx (w.alloc (.cells #[.int .i64 3, .int .i64 row, .int .i64 p, .int .i64 n, .int .i64 xv] 50)) w.heap.size 3 row p n xv) := ⟨heap_alloc_last w _⟩
  have HCD : Hid (Cod w0 (w.alloc (.cells #[.int .i64 3, .int .i64 row, .int .i64 p, .int .i64 n, .int .i64 xv] 50)) P av bv its a r v y e) := h.new cw
  have hlaw := hga k hk
  have hlbw := hgb k hk
  have hpa := cell0 h.play.pair
  have hpb := cell1 h.play.pair
  rw [hav] at hpa
  rw [hbv] at hpb
  have Hla1 : Hid ((w.alloc (.cells #[.int .i64 3, .int .i64 row, .int .i64 p, .int .i64 n, .int .i64 xv] 50)).cell? ⟨P, 0, none⟩ = some (.slice (some ⟨la, 0, none⟩) its.length lac)) := cell_chg hpa cw
  have Hlb1 : Hid ((w.alloc (.cells #[.int .i64 3, .int .i64 row, .int .i64 p, .int .i64 n, .int .i64 xv] 50)).cell? ⟨P, 1, none⟩ = some (.slice (some ⟨lb, 0, none⟩) its.length lbc)) := cell_chg hpb cw
  have Hla2 : Hid ((w.alloc (.cells #[.int .i64 3, .int .i64 row, .int .i64 p, .int .i64 n, .int .i64 xv] 50)).cell? ⟨la, k, none⟩ = some (.pointer (some ⟨its[k].a, 0, none⟩))) := cell_chg hlaw cw
  have Hlb2 : Hid ((w.alloc (.cells #[.int .i64 3, .int .i64 row, .int .i64 p, .int .i64 n, .int .i64 xv] 50)).cell? ⟨lb, k, none⟩ = some (.pointer (some ⟨its[k].r, 0, none⟩))) := cell_chg hlbw cw
  have hkL : (k : Int) < (its.length : Int) := by omega
  clear hP hR hO hI hl hkk h hav hbv hga hgb cw hlaw hlbw hpa hpb
  go_enter Try.func28, Try.ntmps28
  go_wp2_with fail
  generalize w.alloc (.cells #[.int .i64 3, .int .i64 row, .int .i64 p, .int .i64 n, .int .i64 xv] 50) = wB at *
  obtain ⟨b, hb⟩ : ∃ b, w.heap.size = b := ⟨_, rfl⟩
  have HBL : Hid (w.heap.size = b) := hb
  rw [hb] at HBX ⊢
  clear hb
  refine wp_region_phase (mk := fun u => #[_, _, _, _, _, _, _, _, _, _, _, _, _, _, _, _, _, _, _, u 19, u 20, u 21, u 22, u 23, u 24, u 25, u 26, u 27, _, _, _, _, _, _, _, _, _, _, _, _, _, _, _, _, _, _, _, _, _, _, _, _, _, _, _, _, _, _, _, _, _, _, _, _, _, _, _, _, _, _, _, _, _, _, _, _, _, _, _, _, _, _, _, _, _, _, _, _, _, _, _, _, _, _, _, _, _, _, _, _, _, _, _, _, _, _, _, _, _, _, _, _, _, _, _, _, _, _, _, _, _, _, _, _, _, _, _, _, _, _, _, _, _, _, _, _, _, _, _, _, _, _, _, _, _, _, _, _, _, _, _, _, _, _, _, _, _, _, _, _, _, _, _, _, _, _, _, _, _, _, _, _, _, _, _, _, _]) (G := lookG [(19, .pointer (some ⟨P, 0, none⟩)), (20, .pointer (some ⟨P, 0, none⟩)), (21, .pointer (some ⟨P, 0, none⟩)), (22, .slice (some ⟨la, 0, none⟩) its.length lac), (23, .pointer (some ⟨P, 0, none⟩)), (24, .agg #[.int .i64 3, .int .i64 row, .int .i64 p, .int .i64 n, .int .i64 xv]), (25, .int .i64 (k : Int)), (26, .pointer (some ⟨la, k, none⟩)), (27, .pointer (some ⟨its[k].a, 0, none⟩))]) (J := fun _ _ w => Chg (fun _ => False) wB w) [6] (fun _ => undef) rfl (by kernel_rfl) 9 _ rfl rfl (by kernel_rfl) (by kernel_rfl) (by kernel_rfl) (by decide) ?_ ?_ ?_ ?_ ?_
  · repeat (refine ⟨⟨_, rfl, fun _ _ => rfl⟩, ?_⟩)
    exact trivial
  · exact fun q u u2 w _ h => h
  · exact (Chg.refl _ wB).drew
  · refine ⟨?_, ?_, ?_, ?_, ?_, ?_, ?_, ?_, ?_, trivial⟩
    · show StepR _ _ _ _ _ _  _ -- 19
      unfold StepR
      intro q u w hj hd K hK
      clear hd
      go_simp
      exact hK.out (.pointer (some ⟨P, 0, none⟩)) rfl
    · show StepR _ _ _ _ _ _  _ -- 20
      unfold StepR
      intro q u w hj hd K hK
      have h19 : u 19 = .pointer (some ⟨P, 0, none⟩) := hd.get 0 (by kernel_rfl)
      clear hd
      simp only [h19] at hK
      go_simp
      exact hK.out (.pointer (some ⟨P, 0, none⟩)) rfl
    · show StepR _ _ _ _ _ _  _ -- 21
      unfold StepR
      intro q u w hj hd K hK
      have h20 : u 20 = .pointer (some ⟨P, 0, none⟩) := hd.get 1 (by kernel_rfl)
      clear hd
      simp only [h20] at hK
      go_simp
      exact hK.out (.pointer (some ⟨P, 0, none⟩)) rfl
    · show StepR _ _ _ _ _ _  _ -- 22
      unfold StepR
      intro q u w hj hd K hK
      have h21 : u 21 = .pointer (some ⟨P, 0, none⟩) := hd.get 2 (by kernel_rfl)
      clear hd
      simp only [h21] at hK
      have hcell := cell_chg Hla1.out hj
      go_simp
      exact hK.out _ rfl
    · show StepR _ _ _ _ _ _  _ -- 23
      unfold StepR
      intro q u w hj hd K hK
      clear hd
      go_simp
      exact hK.out (.pointer (some ⟨P, 0, none⟩)) rfl
    · show StepR _ _ _ _ _ _  _ -- 24
      unfold StepR
      intro q u w hj hd K hK
      clear hd
      obtain ⟨b0, b1, b2, b3, b4⟩ := (HBX.out.keep hj (fun f => f)).cells
      go_simp
      exact hK.out _ rfl
    · show StepW _ _ _ _ _ _ 0 _ -- 25
      unfold StepW
      intro u w hj hd K hK
      have h23 : u 23 = .pointer (some ⟨P, 0, none⟩) := hd.get 4 (by kernel_rfl)
      have h24 : u 24 = .agg #[.int .i64 3, .int .i64 row, .int .i64 p, .int .i64 n, .int .i64 xv] := hd.get 5 (by kernel_rfl)
      clear hd
      simp only [h23, h24] at hK
      go_simp
      go_at_call 49
      refine (of_any w0 w P av bv its 3 row p n xv (HCD.out.play.new hj)).mono ?_
      rintro z w2 ⟨rfl, c2⟩
      rw [HKK.out]
      exact hK.out _ w2 (chg_then hj c2) rfl
    · show StepR _ _ _ _ _ _  _ -- 26
      unfold StepR
      intro q u w hj hd K hK
      have h22 : u 22 = .slice (some ⟨la, 0, none⟩) its.length lac := hd.get 3 (by kernel_rfl)
      have h25 : u 25 = .int .i64 (k : Int) := hd.get 6 (by kernel_rfl)
      clear hd
      simp only [h22, h25] at hK
      go_simp
      exact hK.out (.pointer (some ⟨la, k, none⟩)) rfl
    · show StepR _ _ _ _ _ _  _ -- 27
      unfold StepR
      intro q u w hj hd K hK
      have h26 : u 26 = .pointer (some ⟨la, k, none⟩) := hd.get 7 (by kernel_rfl)
      clear hd
      simp only [h26] at hK
      have hcell := cell_chg Hla2.out hj
      go_simp
      exact hK.out _ rfl
  · intro u w1 hj hA K hK
    have e27 : u 27 = .pointer (some ⟨its[k].a, 0, none⟩) := hA.at 27 (by kernel_rfl)
    clear hA
    have HBX2 : Hid (Bx w1 b 3 row p n xv) := HBX.out.keep hj (fun f => f)
    have HCD2 : Hid (Cod w0 w1 P av bv its a r v y e) := HCD.out.new hj
    have Hlb1 : Hid (w1.cell? ⟨P, 1, none⟩ = some (.slice (some ⟨lb, 0, none⟩) its.length lbc)) := cell_chg Hlb1.out hj
    have Hlb2 : Hid (w1.cell? ⟨lb, k, none⟩ = some (.pointer (some ⟨its[k].r, 0, none⟩))) := cell_chg Hlb2.out hj
    clear hj HBX HCD Hla1 Hla2
    go_simp
    refine hK.out _ _ ?_
    clear hK
    generalize w1 = wB at *
    have HBX := HBX2
    have HCD := HCD2
    clear HBX2 HCD2
    go_wp2_with fail
    refine wp_region_phase (mk := fun u => #[_, _, _, _, _, _, _, _, _, _, _, _, _, _, _, _, _, _, _, _, _, _, _, _, _, _, _, _, u 28, u 29, u 30, u 31, u 32, u 33, u 34, u 35, u 36, _, _, _, _, _, _, _, _, _, _, _, _, _, _, _, _, _, _, _, _, _, _, _, _, _, _, _, _, _, _, _, _, _, _, _, _, _, _, _, _, _, _, _, _, _, _, _, _, _, _, _, _, _, _, _, _, _, _, _, _, _, _, _, _, _, _, _, _, _, _, _, _, _, _, _, _, _, _, _, _, _, _, _, _, _, _, _, _, _, _, _, _, _, _, _, _, _, _, _, _, _, _, _, _, _, _, _, _, _, _, _, _, _, _, _, _, _, _, _, _, _, _, _, _, _, _, _, _, _, _, _, _, _, _, _, _, _, _, _, _]) (G := lookG [(28, .pointer (some ⟨P, 0, none⟩)), (29, .pointer (some ⟨P, 0, none⟩)), (30, .pointer (some ⟨P, 1, none⟩)), (31, .slice (some ⟨lb, 0, none⟩) its.length lbc), (32, .pointer (some ⟨P, 0, none⟩)), (33, .agg #[.int .i64 3, .int .i64 row, .int .i64 p, .int .i64 n, .int .i64 xv]), (34, .int .i64 (k : Int)), (35, .pointer (some ⟨lb, k, none⟩)), (36, .pointer (some ⟨its[k].r, 0, none⟩))]) (J := fun _ _ w => Chg (fun _ => False) wB w) [6] (fun _ => undef) rfl (by kernel_rfl) 9 _ rfl rfl (by kernel_rfl) (by kernel_rfl) (by kernel_rfl) (by decide) ?_ ?_ ?_ ?_ ?_
    · repeat (refine ⟨⟨_, rfl, fun _ _ => rfl⟩, ?_⟩)
      exact trivial
    · exact fun q u u2 w _ h => h
    · exact (Chg.refl _ wB).drew
    · refine ⟨?_, ?_, ?_, ?_, ?_, ?_, ?_, ?_, ?_, trivial⟩
      · show StepR _ _ _ _ _ _  _ -- 28
        unfold StepR
        intro q u w hj hd K hK
        clear hd
        go_simp
        exact hK.out (.pointer (some ⟨P, 0, none⟩)) rfl
      · show StepR _ _ _ _ _ _  _ -- 29
        unfold StepR
        intro q u w hj hd K hK
        have h28 : u 28 = .pointer (some ⟨P, 0, none⟩) := hd.get 0 (by kernel_rfl)
        clear hd
        simp only [h28] at hK
        go_simp
        exact hK.out (.pointer (some ⟨P, 0, none⟩)) rfl
      · show StepR _ _ _ _ _ _  _ -- 30
        unfold StepR
        intro q u w hj hd K hK
        have h29 : u 29 = .pointer (some ⟨P, 0, none⟩) := hd.get 1 (by kernel_rfl)
        clear hd
        simp only [h29] at hK
        go_simp
        exact hK.out (.pointer (some ⟨P, 1, none⟩)) rfl
      · show StepR _ _ _ _ _ _  _ -- 31
        unfold StepR
        intro q u w hj hd K hK
        have h30 : u 30 = .pointer (some ⟨P, 1, none⟩) := hd.get 2 (by kernel_rfl)
        clear hd
        simp only [h30] at hK
        have hcell := cell_chg Hlb1.out hj
        go_simp
        exact hK.out _ rfl
      · show StepR _ _ _ _ _ _  _ -- 32
        unfold StepR
        intro q u w hj hd K hK
        clear hd
        go_simp
        exact hK.out (.pointer (some ⟨P, 0, none⟩)) rfl
      · show StepR _ _ _ _ _ _  _ -- 33
        unfold StepR
        intro q u w hj hd K hK
        clear hd
        obtain ⟨b0, b1, b2, b3, b4⟩ := (HBX.out.keep hj (fun f => f)).cells
        go_simp
        exact hK.out _ rfl
      · show StepW _ _ _ _ _ _ 0 _ -- 34
        unfold StepW
        intro u w hj hd K hK
        have h32 : u 32 = .pointer (some ⟨P, 0, none⟩) := hd.get 4 (by kernel_rfl)
        have h33 : u 33 = .agg #[.int .i64 3, .int .i64 row, .int .i64 p, .int .i64 n, .int .i64 xv] := hd.get 5 (by kernel_rfl)
        clear hd
        simp only [h32, h33] at hK
        go_simp
        go_at_call 49
        refine (of_any w0 w P av bv its 3 row p n xv (HCD.out.play.new hj)).mono ?_
        rintro z w2 ⟨rfl, c2⟩
        rw [HKK.out]
        exact hK.out _ w2 (chg_then hj c2) rfl
      · show StepR _ _ _ _ _ _  _ -- 35
        unfold StepR
        intro q u w hj hd K hK
        have h31 : u 31 = .slice (some ⟨lb, 0, none⟩) its.length lbc := hd.get 3 (by kernel_rfl)
        have h34 : u 34 = .int .i64 (k : Int) := hd.get 6 (by kernel_rfl)
        clear hd
        simp only [h31, h34] at hK
        go_simp
        exact hK.out (.pointer (some ⟨lb, k, none⟩)) rfl
      · show StepR _ _ _ _ _ _  _ -- 36
        unfold StepR
        intro q u w hj hd K hK
        have h35 : u 35 = .pointer (some ⟨lb, k, none⟩) := hd.get 7 (by kernel_rfl)
        clear hd
        simp only [h35] at hK
        have hcell := cell_chg Hlb2.out hj
        go_simp
        exact hK.out _ rfl
    · intro u w1 hj hA K hK
      have e36 : u 36 = .pointer (some ⟨its[k].r, 0, none⟩) := hA.at 36 (by kernel_rfl)
      clear hA
      have HBX2 : Hid (Bx w1 b 3 row p n xv) := HBX.out.keep hj (fun f => f)
      have HCD2 : Hid (Cod w0 w1 P av bv its a r v y e) := HCD.out.new hj
      clear hj HBX HCD Hlb1 Hlb2
      go_simp
      refine hK.out _ _ ?_
      clear hK
      generalize w1 = wA at *
      have HBX := HBX2
      have HCD := HCD2
      clear HBX2 HCD2
      obtain ⟨b0, b1, b2, b3, b4⟩ := HBX.out.cells
      clear b1 b2 b3 b4
      go_wp2_with fail
      refine wp_region_phase (mk := fun u => #[_, _, _, _, _, _, _, _, _, _, _, _, _, _, _, _, _, _, _, _, _, _, _, _, _, _, _, _, _, _, _, _, _, _, _, _, _, _, _, _, _, _, _, _, _, _, _, _, _, _, _, _, _, _, _, _, _, _, _, _, _, _, _, _, _, _, _, _, _, _, _, _, _, _, _, _, _, _, _, _, _, _, _, u 83, u 84, u 85, u 86, u 87, u 88, u 89, u 90, u 91, u 92, u 93, u 94, u 95, u 96, u 97, _, _, _, _, _, _, _, _, _, _, _, _, _, _, _, _, _, _, _, _, _, _, _, _, _, _, _, _, _, _, _, _, _, _, _, _, _, _, _, _, _, _, _, _, _, _, _, _, _, _, _, _, _, _, _, _, _, _, _, _, _, _, _, _, _, _, _, _, _, _, _, _, _, _, _, _, _, _, _]) (G := lookG [(83, .pointer (some ⟨a, 0, none⟩)), (84, .pointer (some ⟨its[k].a, 0, none⟩)), (85, .pointer (some ⟨b, 2, none⟩)), (86, .int .i64 p), (87, .pointer (some ⟨b, 4, none⟩)), (88, .int .i64 xv), (89, .int .i64 er), (90, .pointer (some ⟨r, 0, none⟩)), (91, .pointer (some ⟨its[k].r, 0, none⟩)), (92, .pointer (some ⟨b, 2, none⟩)), (93, .int .i64 p), (94, .pointer (some ⟨b, 4, none⟩)), (95, .int .i64 xv), (96, .int .i64 er), (97, .bool true)]) (J := fun q _ w => Bx w b 3 row p n xv ∧ Ways w0 wA P av bv its k hk a r v y e e' xs' q w) [6, 13] (fun _ => undef) rfl (by kernel_rfl) 15 _ rfl rfl (by kernel_rfl) (by kernel_rfl) (by kernel_rfl) (by decide) ?_ ?_ ?_ ?_ ?_
      · repeat (refine ⟨⟨_, rfl, fun _ _ => rfl⟩, ?_⟩)
        exact trivial
      · exact fun q u u2 w _ h => h
      · exact ⟨HBX.out.keep (Chg.refl (fun _ => False) wA).drew (fun f => f), (Chg.refl _ wA).drew⟩
      · refine ⟨?_, ?_, ?_, ?_, ?_, ?_, ?_, ?_, ?_, ?_, ?_, ?_, ?_, ?_, ?_, trivial⟩
        · show StepR _ _ _ _ _ _  _ -- 83
          unfold StepR
          intro q u w hj hd K hK
          clear hd
          go_simp
          exact hK.out (.pointer (some ⟨a, 0, none⟩)) rfl
        · show StepR _ _ _ _ _ _  _ -- 84
          unfold StepR
          intro q u w hj hd K hK
          clear hd
          go_simp
          exact hK.out (.pointer (some ⟨its[k].a, 0, none⟩)) rfl
        · show StepR _ _ _ _ _ _  _ -- 85
          unfold StepR
          intro q u w hj hd K hK
          clear hd
          go_simp
          exact hK.out (.pointer (some ⟨b, 2, none⟩)) rfl
        · show StepR _ _ _ _ _ _  _ -- 86
          unfold StepR
          intro q u w hj hd K hK
          have h85 : u 85 = .pointer (some ⟨b, 2, none⟩) := hd.get 2 (by kernel_rfl)
          clear hd
          simp only [h85] at hK
          obtain ⟨b0, b1, b2, b3, b4⟩ := hj.1.cells
          go_simp
          exact hK.out _ rfl
        · show StepR _ _ _ _ _ _  _ -- 87
          unfold StepR
          intro q u w hj hd K hK
          clear hd
          go_simp
          exact hK.out (.pointer (some ⟨b, 4, none⟩)) rfl
        · show StepR _ _ _ _ _ _  _ -- 88
          unfold StepR
          intro q u w hj hd K hK
          have h87 : u 87 = .pointer (some ⟨b, 4, none⟩) := hd.get 4 (by kernel_rfl)
          clear hd
          simp only [h87] at hK
          obtain ⟨b0, b1, b2, b3, b4⟩ := hj.1.cells
          go_simp
          exact hK.out _ rfl
        · show StepW _ _ _ _ _ _ 0 _ -- 89
          unfold StepW
          intro u w hj hd K hK
          have h83 : u 83 = .pointer (some ⟨a, 0, none⟩) := hd.get 0 (by kernel_rfl)
          have h84 : u 84 = .pointer (some ⟨its[k].a, 0, none⟩) := hd.get 1 (by kernel_rfl)
          have h86 : u 86 = .int .i64 p := hd.get 3 (by kernel_rfl)
          have h88 : u 88 = .int .i64 xv := hd.get 5 (by kernel_rfl)
          clear hd
          simp only [h83, h84, h86, h88] at hK
          obtain ⟨hb, hW⟩ := hj
          have hW : Chg (fun _ => False) wA w := hW
          go_simp
          go_at_call 43
          refine ((HPS.out : PSide _ _ _ _ _ _ _ _ _ _) w (HCD.out.new hW).enc ((HCD.out.new hW).play.good k hk).st (Nat.le_trans HCD.out.play.chg.size hW.size)).mono ?_
          rintro z w2 ⟨rfl, v', hE, hS, c2, hM⟩
          exact hK.out _ w2 ⟨hb.keep c2 (fun f => by have := sideP_lt HCW.out k hk _ f; have := HBL.out; omega), v', hE, hS, (hW.mono (fun _ f => f.elim)).trans c2 (fun z f => .inl f), moved_from hW.size hM⟩ rfl
        · show StepR _ _ _ _ _ _  _ -- 90
          unfold StepR
          intro q u w hj hd K hK
          clear hd
          go_simp
          exact hK.out (.pointer (some ⟨r, 0, none⟩)) rfl
        · show StepR _ _ _ _ _ _  _ -- 91
          unfold StepR
          intro q u w hj hd K hK
          clear hd
          go_simp
          exact hK.out (.pointer (some ⟨its[k].r, 0, none⟩)) rfl
        · show StepR _ _ _ _ _ _  _ -- 92
          unfold StepR
          intro q u w hj hd K hK
          clear hd
          go_simp
          exact hK.out (.pointer (some ⟨b, 2, none⟩)) rfl
        · show StepR _ _ _ _ _ _  _ -- 93
          unfold StepR
          intro q u w hj hd K hK
          have h92 : u 92 = .pointer (some ⟨b, 2, none⟩) := hd.get 9 (by kernel_rfl)
          clear hd
          simp only [h92] at hK
          obtain ⟨b0, b1, b2, b3, b4⟩ := hj.1.cells
          go_simp
          exact hK.out _ rfl
        · show StepR _ _ _ _ _ _  _ -- 94
          unfold StepR
          intro q u w hj hd K hK
          clear hd
          go_simp
          exact hK.out (.pointer (some ⟨b, 4, none⟩)) rfl
        · show StepR _ _ _ _ _ _  _ -- 95
          unfold StepR
          intro q u w hj hd K hK
          have h94 : u 94 = .pointer (some ⟨b, 4, none⟩) := hd.get 11 (by kernel_rfl)
          clear hd
          simp only [h94] at hK
          obtain ⟨b0, b1, b2, b3, b4⟩ := hj.1.cells
          go_simp
          exact hK.out _ rfl
        · show StepW _ _ _ _ _ _ 1 _ -- 96
          unfold StepW
          intro u w hj hd K hK
          have h90 : u 90 = .pointer (some ⟨r, 0, none⟩) := hd.get 7 (by kernel_rfl)
          have h91 : u 91 = .pointer (some ⟨its[k].r, 0, none⟩) := hd.get 8 (by kernel_rfl)
          have h93 : u 93 = .int .i64 p := hd.get 10 (by kernel_rfl)
          have h95 : u 95 = .int .i64 xv := hd.get 12 (by kernel_rfl)
          clear hd
          simp only [h90, h91, h93, h95] at hK
          obtain ⟨hb, v', hE, hS, hW, hM⟩ := hj
          obtain ⟨hR, hT⟩ := HCD.out.side k hk hW
          go_simp
          go_at_call 58
          refine ((HRS.out : RSide _ _ _ _ _ _ _ _ _ _) w hR hT (Nat.le_trans HCD.out.play.chg.size hW.size)).mono ?_
          rintro z w2 ⟨rfl, y', hR2, hT2, c2, hM2⟩
          exact hK.out _ w2 ⟨hb.keep c2 (fun f => by have := sideR_lt HCW.out k hk _ f; have := HBL.out; omega), v', y', HCD.out.done k hk xs' hW hE hS hM c2 hR2 hT2 hM2 HOK.out.1 HOK.out.2.1 HOK.out.2.2⟩ rfl
        · show StepR _ _ _ _ _ _  _ -- 97
          unfold StepR
          intro q u w hj hd K hK
          have h89 : u 89 = .int .i64 er := hd.get 6 (by kernel_rfl)
          have h96 : u 96 = .int .i64 er := hd.get 13 (by kernel_rfl)
          clear hd
          simp only [h89, h96] at hK
          go_simp
          exact hK.out (.bool true) rfl
      · intro u w1 hj hA K hK
        have e_ : u 97 = .bool true := hA.at 97 (by kernel_rfl)
        clear hA
        obtain ⟨_, v', y', hCE⟩ := hj
        have HCE : Hid (Cod w0 w1 P av bv (its.set k (its[k].to xs')) a r v' y' e') := hCE
        clear hCE
        go_simp
        refine hK.out _ _ ?_
        go_wp2
        go_ret
        exact ⟨rfl, v', y', HCE.out⟩
set_option maxHeartbeats 8000000 in
set_option maxRecDepth 100000 in
theorem codes_4 (w0 w : World) (P : Nat) (av bv : Value) (its : List It) (a r : Nat) (v y : Value) (e : Rc.E) (row p n xv : Int) (k : Nat) (hk : k < its.length) (hkk : ofN its.length row = k) (h : Cod w0 w P av bv its a r v y e) (er : Int) (e' : Rc.E) (xs' : List Int) (hP : PSide 50 #[.pointer (some ⟨a, 0, none⟩), .int .u32 (IntKind.u32.wrap xv), .int .i64 n] w0.heap.size a v its[k] e er e' xs') (hR : RSide 59 #[.pointer (some ⟨r, 0, none⟩), .int .u32 (IntKind.u32.wrap xv), .int .i64 n] w0.heap.size r y its[k] e er e' xs') (hO : Rc.Ok e') (hI : In31 xs') (hl : xs'.length = its[k].xs.length) :
    Calls Try.prog 28 #[.pointer (some ⟨P, 0, none⟩), .pointer (some ⟨a, 0, none⟩), .pointer (some ⟨r, 0, none⟩), .agg #[.int .i64 4, .int .i64 row, .int .i64 p, .int .i64 n, .int .i64 xv]] w fun z w' => z = .returned (.bool true) ∧ ∃ v' y', Cod w0 w' P av bv (its.set k (its[k].to xs')) a r v' y' e' := by
  have HPS : Hid (PSide 50 #[.pointer (some ⟨a, 0, none⟩), .int .u32 (IntKind.u32.wrap xv), .int .i64 n] w0.heap.size a v its[k] e er e' xs') := hP
  have HRS : Hid (RSide 59 #[.pointer (some ⟨r, 0, none⟩), .int .u32 (IntKind.u32.wrap xv), .int .i64 n] w0.heap.size r y its[k] e er e' xs') := hR
  have HOK : Hid (Rc.Ok e' ∧ In31 xs' ∧ xs'.length = its[k].xs.length) := ⟨hO, hI, hl⟩
  have HKK : Hid (ofN its.length row = k) := hkk
  have HCW : Hid (Cod w0 w P av bv its a r v y e) := h
  obtain ⟨la, lac, hav, hlac, hga⟩ := h.play.a_at (by omega)
  obtain ⟨lb, lbc, hbv, hlbc, hgb⟩ := h.play.b_at (by omega)
  have cw := chg_one w (.cells #[.int .i64 4, .int .i64 row, .int .i64 p, .int .i64 n, .int .i64 xv] 50)
  have HBX : Hid (Bx (w.alloc (.cells #[.int .i64 4, .int .i64 row, .int .i64 p, .int .i64 n, .int .i64 xv] 50)) w.heap.size 4 row p n xv) := ⟨heap_alloc_last w _⟩
  have HCD : Hid (Cod w0 (w.alloc (.cells #[.int .i64 4, .int .i64 row, .int .i64 p, .int .i64 n, .int .i64 xv] 50)) P av bv its a r v y e) := h.new cw
  have hlaw := hga k hk
  have hlbw := hgb k hk
  have hpa := cell0 h.play.pair
  have hpb := cell1 h.play.pair
  rw [hav] at hpa
  rw [hbv] at hpb
  have Hla1 : Hid ((w.alloc (.cells #[.int .i64 4, .int .i64 row, .int .i64 p, .int .i64 n, .int .i64 xv] 50)).cell? ⟨P, 0, none⟩ = some (.slice (some ⟨la, 0, none⟩) its.length lac)) := cell_chg hpa cw
  have Hlb1 : Hid ((w.alloc (.cells #[.int .i64 4, .int .i64 row, .int .i64 p, .int .i64 n, .int .i64 xv] 50)).cell? ⟨P, 1, none⟩ = some (.slice (some ⟨lb, 0, none⟩) its.length lbc)) := cell_chg hpb cw
  have Hla2 : Hid ((w.alloc (.cells #[.int .i64 4, .int .i64 row, .int .i64 p, .int .i64 n, .int .i64 xv] 50)).cell? ⟨la, k, none⟩ = some (.pointer (some ⟨its[k].a, 0, none⟩))) := cell_chg hlaw cw
  have Hlb2 : Hid ((w.alloc (.cells #[.int .i64 4, .int .i64 row, .int .i64 p, .int .i64 n, .int .i64 xv] 50)).cell? ⟨lb, k, none⟩ = some (.pointer (some ⟨its[k].r, 0, none⟩))) := cell_chg hlbw cw
  have hkL : (k : Int) < (its.length : Int) := by omega
  clear hP hR hO hI hl hkk h hav hbv hga hgb cw hlaw hlbw hpa hpb
  go_enter Try.func28, Try.ntmps28
  go_wp2_with fail
  generalize w.alloc (.cells #[.int .i64 4, .int .i64 row, .int .i64 p, .int .i64 n, .int .i64 xv] 50) = wB at *
  obtain ⟨b, hb⟩ : ∃ b, w.heap.size = b := ⟨_, rfl⟩
  have HBL : Hid (w.heap.size = b) := hb
  rw [hb] at HBX ⊢
  clear hb
  refine wp_region_phase (mk := fun u => #[_, _, _, _, _, _, _, _, _, _, _, _, _, _, _, _, _, _, _, u 19, u 20, u 21, u 22, u 23, u 24, u 25, u 26, u 27, _, _, _, _, _, _, _, _, _, _, _, _, _, _, _, _, _, _, _, _, _, _, _, _, _, _, _, _, _, _, _, _, _, _, _, _, _, _, _, _, _, _, _, _, _, _, _, _, _, _, _, _, _, _, _, _, _, _, _, _, _, _, _, _, _, _, _, _, _, _, _, _, _, _, _, _, _, _, _, _, _, _, _, _, _, _, _, _, _, _, _, _, _, _, _, _, _, _, _, _, _, _, _, _, _, _, _, _, _, _, _, _, _, _, _, _, _, _, _, _, _, _, _, _, _, _, _, _, _, _, _, _, _, _, _, _, _, _, _, _, _, _, _, _, _, _, _, _, _]) (G := lookG [(19, .pointer (some ⟨P, 0, none⟩)), (20, .pointer (some ⟨P, 0, none⟩)), (21, .pointer (some ⟨P, 0, none⟩)), (22, .slice (some ⟨la, 0, none⟩) its.length lac), (23, .pointer (some ⟨P, 0, none⟩)), (24, .agg #[.int .i64 4, .int .i64 row, .int .i64 p, .int .i64 n, .int .i64 xv]), (25, .int .i64 (k : Int)), (26, .pointer (some ⟨la, k, none⟩)), (27, .pointer (some ⟨its[k].a, 0, none⟩))]) (J := fun _ _ w => Chg (fun _ => False) wB w) [6] (fun _ => undef) rfl (by kernel_rfl) 9 _ rfl rfl (by kernel_rfl) (by kernel_rfl) (by kernel_rfl) (by decide) ?_ ?_ ?_ ?_ ?_
  · repeat (refine ⟨⟨_, rfl, fun _ _ => rfl⟩, ?_⟩)
    exact trivial
  · exact fun q u u2 w _ h => h
  · exact (Chg.refl _ wB).drew
  · refine ⟨?_, ?_, ?_, ?_, ?_, ?_, ?_, ?_, ?_, trivial⟩
    · show StepR _ _ _ _ _ _  _ -- 19
      unfold StepR
      intro q u w hj hd K hK
      clear hd
      go_simp
      exact hK.out (.pointer (some ⟨P, 0, none⟩)) rfl
    · show StepR _ _ _ _ _ _  _ -- 20
      unfold StepR
      intro q u w hj hd K hK
      have h19 : u 19 = .pointer (some ⟨P, 0, none⟩) := hd.get 0 (by kernel_rfl)
      clear hd
      simp only [h19] at hK
      go_simp
      exact hK.out (.pointer (some ⟨P, 0, none⟩)) rfl
    · show StepR _ _ _ _ _ _  _ -- 21
      unfold StepR
      intro q u w hj hd K hK
      have h20 : u 20 = .pointer (some ⟨P, 0, none⟩) := hd.get 1 (by kernel_rfl)
      clear hd
      simp only [h20] at hK
      go_simp
      exact hK.out (.pointer (some ⟨P, 0, none⟩)) rfl
    · show StepR _ _ _ _ _ _  _ -- 22
      unfold StepR
      intro q u w hj hd K hK
      have h21 : u 21 = .pointer (some ⟨P, 0, none⟩) := hd.get 2 (by kernel_rfl)
      clear hd
      simp only [h21] at hK
      have hcell := cell_chg Hla1.out hj
      go_simp
      exact hK.out _ rfl
    · show StepR _ _ _ _ _ _  _ -- 23
      unfold StepR
      intro q u w hj hd K hK
      clear hd
      go_simp
      exact hK.out (.pointer (some ⟨P, 0, none⟩)) rfl
    · show StepR _ _ _ _ _ _  _ -- 24
      unfold StepR
      intro q u w hj hd K hK
      clear hd
      obtain ⟨b0, b1, b2, b3, b4⟩ := (HBX.out.keep hj (fun f => f)).cells
      go_simp
      exact hK.out _ rfl
    · show StepW _ _ _ _ _ _ 0 _ -- 25
      unfold StepW
      intro u w hj hd K hK
      have h23 : u 23 = .pointer (some ⟨P, 0, none⟩) := hd.get 4 (by kernel_rfl)
      have h24 : u 24 = .agg #[.int .i64 4, .int .i64 row, .int .i64 p, .int .i64 n, .int .i64 xv] := hd.get 5 (by kernel_rfl)
      clear hd
      simp only [h23, h24] at hK
      go_simp
      go_at_call 49
      refine (of_any w0 w P av bv its 4 row p n xv (HCD.out.play.new hj)).mono ?_
      rintro z w2 ⟨rfl, c2⟩
      rw [HKK.out]
      exact hK.out _ w2 (chg_then hj c2) rfl
    · show StepR _ _ _ _ _ _  _ -- 26
      unfold StepR
      intro q u w hj hd K hK
      have h22 : u 22 = .slice (some ⟨la, 0, none⟩) its.length lac := hd.get 3 (by kernel_rfl)
      have h25 : u 25 = .int .i64 (k : Int) := hd.get 6 (by kernel_rfl)
      clear hd
      simp only [h22, h25] at hK
      go_simp
      exact hK.out (.pointer (some ⟨la, k, none⟩)) rfl
    · show StepR _ _ _ _ _ _  _ -- 27
      unfold StepR
      intro q u w hj hd K hK
      have h26 : u 26 = .pointer (some ⟨la, k, none⟩) := hd.get 7 (by kernel_rfl)
      clear hd
      simp only [h26] at hK
      have hcell := cell_chg Hla2.out hj
      go_simp
      exact hK.out _ rfl
  · intro u w1 hj hA K hK
    have e27 : u 27 = .pointer (some ⟨its[k].a, 0, none⟩) := hA.at 27 (by kernel_rfl)
    clear hA
    have HBX2 : Hid (Bx w1 b 4 row p n xv) := HBX.out.keep hj (fun f => f)
    have HCD2 : Hid (Cod w0 w1 P av bv its a r v y e) := HCD.out.new hj
    have Hlb1 : Hid (w1.cell? ⟨P, 1, none⟩ = some (.slice (some ⟨lb, 0, none⟩) its.length lbc)) := cell_chg Hlb1.out hj
    have Hlb2 : Hid (w1.cell? ⟨lb, k, none⟩ = some (.pointer (some ⟨its[k].r, 0, none⟩))) := cell_chg Hlb2.out hj
    clear hj HBX HCD Hla1 Hla2
    go_simp
    refine hK.out _ _ ?_
    clear hK
    generalize w1 = wB at *
    have HBX := HBX2
    have HCD := HCD2
    clear HBX2 HCD2
    go_wp2_with fail
    refine wp_region_phase (mk := fun u => #[_, _, _, _, _, _, _, _, _, _, _, _, _, _, _, _, _, _, _, _, _, _, _, _, _, _, _, _, u 28, u 29, u 30, u 31, u 32, u 33, u 34, u 35, u 36, _, _, _, _, _, _, _, _, _, _, _, _, _, _, _, _, _, _, _, _, _, _, _, _, _, _, _, _, _, _, _, _, _, _, _, _, _, _, _, _, _, _, _, _, _, _, _, _, _, _, _, _, _, _, _, _, _, _, _, _, _, _, _, _, _, _, _, _, _, _, _, _, _, _, _, _, _, _, _, _, _, _, _, _, _, _, _, _, _, _, _, _, _, _, _, _, _, _, _, _, _, _, _, _, _, _, _, _, _, _, _, _, _, _, _, _, _, _, _, _, _, _, _, _, _, _, _, _, _, _, _, _, _, _, _, _, _, _, _, _]) (G := lookG [(28, .pointer (some ⟨P, 0, none⟩)), (29, .pointer (some ⟨P, 0, none⟩)), (30, .pointer (some ⟨P, 1, none⟩)), (31, .slice (some ⟨lb, 0, none⟩) its.length lbc), (32, .pointer (some ⟨P, 0, none⟩)), (33, .agg #[.int .i64 4, .int .i64 row, .int .i64 p, .int .i64 n, .int .i64 xv]), (34, .int .i64 (k : Int)), (35, .pointer (some ⟨lb, k, none⟩)), (36, .pointer (some ⟨its[k].r, 0, none⟩))]) (J := fun _ _ w => Chg (fun _ => False) wB w) [6] (fun _ => undef) rfl (by kernel_rfl) 9 _ rfl rfl (by kernel_rfl) (by kernel_rfl) (by kernel_rfl) (by decide) ?_ ?_ ?_ ?_ ?_
    · repeat (refine ⟨⟨_, rfl, fun _ _ => rfl⟩, ?_⟩)
      exact trivial
    · exact fun q u u2 w _ h => h
    · exact (Chg.refl _ wB).drew
    · refine ⟨?_, ?_, ?_, ?_, ?_, ?_, ?_, ?_, ?_, trivial⟩
      · show StepR _ _ _ _ _ _  _ -- 28
        unfold StepR
        intro q u w hj hd K hK
        clear hd
        go_simp
        exact hK.out (.pointer (some ⟨P, 0, none⟩)) rfl
      · show StepR _ _ _ _ _ _  _ -- 29
        unfold StepR
        intro q u w hj hd K hK
        have h28 : u 28 = .pointer (some ⟨P, 0, none⟩) := hd.get 0 (by kernel_rfl)
        clear hd
        simp only [h28] at hK
        go_simp
        exact hK.out (.pointer (some ⟨P, 0, none⟩)) rfl
      · show StepR _ _ _ _ _ _  _ -- 30
        unfold StepR
        intro q u w hj hd K hK
        have h29 : u 29 = .pointer (some ⟨P, 0, none⟩) := hd.get 1 (by kernel_rfl)
        clear hd
        simp only [h29] at hK
        go_simp
        exact hK.out (.pointer (some ⟨P, 1, none⟩)) rfl
      · show StepR _ _ _ _ _ _  _ -- 31
        unfold StepR
        intro q u w hj hd K hK
        have h30 : u 30 = .pointer (some ⟨P, 1, none⟩) := hd.get 2 (by kernel_rfl)
        clear hd
        simp only [h30] at hK
        have hcell := cell_chg Hlb1.out hj
        go_simp
        exact hK.out _ rfl
      · show StepR _ _ _ _ _ _  _ -- 32
        unfold StepR
        intro q u w hj hd K hK
        clear hd
        go_simp
        exact hK.out (.pointer (some ⟨P, 0, none⟩)) rfl
      · show StepR _ _ _ _ _ _  _ -- 33
        unfold StepR
        intro q u w hj hd K hK
        clear hd
        obtain ⟨b0, b1, b2, b3, b4⟩ := (HBX.out.keep hj (fun f => f)).cells
        go_simp
        exact hK.out _ rfl
      · show StepW _ _ _ _ _ _ 0 _ -- 34
        unfold StepW
        intro u w hj hd K hK
        have h32 : u 32 = .pointer (some ⟨P, 0, none⟩) := hd.get 4 (by kernel_rfl)
        have h33 : u 33 = .agg #[.int .i64 4, .int .i64 row, .int .i64 p, .int .i64 n, .int .i64 xv] := hd.get 5 (by kernel_rfl)
        clear hd
        simp only [h32, h33] at hK
        go_simp
        go_at_call 49
        refine (of_any w0 w P av bv its 4 row p n xv (HCD.out.play.new hj)).mono ?_
        rintro z w2 ⟨rfl, c2⟩
        rw [HKK.out]
        exact hK.out _ w2 (chg_then hj c2) rfl
      · show StepR _ _ _ _ _ _  _ -- 35
        unfold StepR
        intro q u w hj hd K hK
        have h31 : u 31 = .slice (some ⟨lb, 0, none⟩) its.length lbc := hd.get 3 (by kernel_rfl)
        have h34 : u 34 = .int .i64 (k : Int) := hd.get 6 (by kernel_rfl)
        clear hd
        simp only [h31, h34] at hK
        go_simp
        exact hK.out (.pointer (some ⟨lb, k, none⟩)) rfl
      · show StepR _ _ _ _ _ _  _ -- 36
        unfold StepR
        intro q u w hj hd K hK
        have h35 : u 35 = .pointer (some ⟨lb, k, none⟩) := hd.get 7 (by kernel_rfl)
        clear hd
        simp only [h35] at hK
        have hcell := cell_chg Hlb2.out hj
        go_simp
        exact hK.out _ rfl
    · intro u w1 hj hA K hK
      have e36 : u 36 = .pointer (some ⟨its[k].r, 0, none⟩) := hA.at 36 (by kernel_rfl)
      clear hA
      have HBX2 : Hid (Bx w1 b 4 row p n xv) := HBX.out.keep hj (fun f => f)
      have HCD2 : Hid (Cod w0 w1 P av bv its a r v y e) := HCD.out.new hj
      clear hj HBX HCD Hlb1 Hlb2
      go_simp
      refine hK.out _ _ ?_
      clear hK
      generalize w1 = wA at *
      have HBX := HBX2
      have HCD := HCD2
      clear HBX2 HCD2
      obtain ⟨b0, b1, b2, b3, b4⟩ := HBX.out.cells
      clear b1 b2 b3 b4
      go_wp2_with fail
      refine wp_region_phase (mk := fun u => #[_, _, _, _, _, _, _, _, _, _, _, _, _, _, _, _, _, _, _, _, _, _, _, _, _, _, _, _, _, _, _, _, _, _, _, _, _, _, _, _, _, _, _, _, _, _, _, _, _, _, _, _, _, _, _, _, _, _, _, _, _, _, _, _, _, _, _, _, _, _, _, _, _, _, _, _, _, _, _, _, _, _, _, _, _, _, _, _, _, _, _, _, _, _, _, _, _, _, _, _, u 100, u 101, u 102, u 103, u 104, u 105, u 106, u 107, u 108, u 109, u 110, u 111, u 112, u 113, u 114, _, _, _, _, _, _, _, _, _, _, _, _, _, _, _, _, _, _, _, _, _, _, _, _, _, _, _, _, _, _, _, _, _, _, _, _, _, _, _, _, _, _, _, _, _, _, _, _, _, _, _, _, _, _, _, _, _, _, _, _, _, _]) (G := lookG [(100, .pointer (some ⟨a, 0, none⟩)), (101, .pointer (some ⟨b, 4, none⟩)), (102, .int .i64 xv), (103, .int .u32 (IntKind.u32.wrap xv)), (104, .pointer (some ⟨b, 3, none⟩)), (105, .int .i64 n), (106, .int .i64 er), (107, .pointer (some ⟨r, 0, none⟩)), (108, .pointer (some ⟨b, 4, none⟩)), (109, .int .i64 xv), (110, .int .u32 (IntKind.u32.wrap xv)), (111, .pointer (some ⟨b, 3, none⟩)), (112, .int .i64 n), (113, .int .i64 er), (114, .bool true)]) (J := fun q _ w => Bx w b 4 row p n xv ∧ Ways w0 wA P av bv its k hk a r v y e e' xs' q w) [6, 13] (fun _ => undef) rfl (by kernel_rfl) 15 _ rfl rfl (by kernel_rfl) (by kernel_rfl) (by kernel_rfl) (by decide) ?_ ?_ ?_ ?_ ?_
      · repeat (refine ⟨⟨_, rfl, fun _ _ => rfl⟩, ?_⟩)
        exact trivial
      · exact fun q u u2 w _ h => h
      · exact ⟨HBX.out.keep (Chg.refl (fun _ => False) wA).drew (fun f => f), (Chg.refl _ wA).drew⟩
      · refine ⟨?_, ?_, ?_, ?_, ?_, ?_, ?_, ?_, ?_, ?_, ?_, ?_, ?_, ?_, ?_, trivial⟩
        · show StepR _ _ _ _ _ _  _ -- 100
          unfold StepR
          intro q u w hj hd K hK
          clear hd
          go_simp
          exact hK.out (.pointer (some ⟨a, 0, none⟩)) rfl
        · show StepR _ _ _ _ _ _  _ -- 101
          unfold StepR
          intro q u w hj hd K hK
          clear hd
          go_simp
          exact hK.out (.pointer (some ⟨b, 4, none⟩)) rfl
        · show StepR _ _ _ _ _ _  _ -- 102
          unfold StepR
          intro q u w hj hd K hK
          have h101 : u 101 = .pointer (some ⟨b, 4, none⟩) := hd.get 1 (by kernel_rfl)
          clear hd
          simp only [h101] at hK
          obtain ⟨b0, b1, b2, b3, b4⟩ := hj.1.cells
          go_simp
          exact hK.out _ rfl
        · show StepR _ _ _ _ _ _  _ -- 103
          unfold StepR
          intro q u w hj hd K hK
          have h102 : u 102 = .int .i64 xv := hd.get 2 (by kernel_rfl)
          clear hd
          simp only [h102] at hK
          go_simp
          first | exact hK.out (.int .u32 (IntKind.u32.wrap xv)) rfl | exact hK.out _ (by simp [IntKind.wrap, IntKind.signed, IntKind.bits])
        · show StepR _ _ _ _ _ _  _ -- 104
          unfold StepR
          intro q u w hj hd K hK
          clear hd
          go_simp
          exact hK.out (.pointer (some ⟨b, 3, none⟩)) rfl
        · show StepR _ _ _ _ _ _  _ -- 105
          unfold StepR
          intro q u w hj hd K hK
          have h104 : u 104 = .pointer (some ⟨b, 3, none⟩) := hd.get 4 (by kernel_rfl)
          clear hd
          simp only [h104] at hK
          obtain ⟨b0, b1, b2, b3, b4⟩ := hj.1.cells
          go_simp
          exact hK.out _ rfl
        · show StepW _ _ _ _ _ _ 0 _ -- 106
          unfold StepW
          intro u w hj hd K hK
          have h100 : u 100 = .pointer (some ⟨a, 0, none⟩) := hd.get 0 (by kernel_rfl)
          have h103 : u 103 = .int .u32 (IntKind.u32.wrap xv) := hd.get 3 (by kernel_rfl)
          have h105 : u 105 = .int .i64 n := hd.get 5 (by kernel_rfl)
          clear hd
          simp only [h100, h103, h105] at hK
          obtain ⟨hb, hW⟩ := hj
          have hW : Chg (fun _ => False) wA w := hW
          go_simp
          go_at_call 50
          refine ((HPS.out : PSide _ _ _ _ _ _ _ _ _ _) w (HCD.out.new hW).enc ((HCD.out.new hW).play.good k hk).st (Nat.le_trans HCD.out.play.chg.size hW.size)).mono ?_
          rintro z w2 ⟨rfl, v', hE, hS, c2, hM⟩
          exact hK.out _ w2 ⟨hb.keep c2 (fun f => by have := sideP_lt HCW.out k hk _ f; have := HBL.out; omega), v', hE, hS, (hW.mono (fun _ f => f.elim)).trans c2 (fun z f => .inl f), moved_from hW.size hM⟩ rfl
        · show StepR _ _ _ _ _ _  _ -- 107
          unfold StepR
          intro q u w hj hd K hK
          clear hd
          go_simp
          exact hK.out (.pointer (some ⟨r, 0, none⟩)) rfl
        · show StepR _ _ _ _ _ _  _ -- 108
          unfold StepR
          intro q u w hj hd K hK
          clear hd
          go_simp
          exact hK.out (.pointer (some ⟨b, 4, none⟩)) rfl
        · show StepR _ _ _ _ _ _  _ -- 109
          unfold StepR
          intro q u w hj hd K hK
          have h108 : u 108 = .pointer (some ⟨b, 4, none⟩) := hd.get 8 (by kernel_rfl)
          clear hd
          simp only [h108] at hK
          obtain ⟨b0, b1, b2, b3, b4⟩ := hj.1.cells
          go_simp
          exact hK.out _ rfl
        · show StepR _ _ _ _ _ _  _ -- 110
          unfold StepR
          intro q u w hj hd K hK
          have h109 : u 109 = .int .i64 xv := hd.get 9 (by kernel_rfl)
          clear hd
          simp only [h109] at hK
          go_simp
          first | exact hK.out (.int .u32 (IntKind.u32.wrap xv)) rfl | exact hK.out _ (by simp [IntKind.wrap, IntKind.signed, IntKind.bits])
        · show StepR _ _ _ _ _ _  _ -- 111
          unfold StepR
          intro q u w hj hd K hK
          clear hd
          go_simp
          exact hK.out (.pointer (some ⟨b, 3, none⟩)) rfl
        · show StepR _ _ _ _ _ _  _ -- 112
          unfold StepR
          intro q u w hj hd K hK
          have h111 : u 111 = .pointer (some ⟨b, 3, none⟩) := hd.get 11 (by kernel_rfl)
          clear hd
          simp only [h111] at hK
          obtain ⟨b0, b1, b2, b3, b4⟩ := hj.1.cells
          go_simp
          exact hK.out _ rfl
        · show StepW _ _ _ _ _ _ 1 _ -- 113
          unfold StepW
          intro u w hj hd K hK
          have h107 : u 107 = .pointer (some ⟨r, 0, none⟩) := hd.get 7 (by kernel_rfl)
          have h110 : u 110 = .int .u32 (IntKind.u32.wrap xv) := hd.get 10 (by kernel_rfl)
          have h112 : u 112 = .int .i64 n := hd.get 12 (by kernel_rfl)
          clear hd
          simp only [h107, h110, h112] at hK
          obtain ⟨hb, v', hE, hS, hW, hM⟩ := hj
          obtain ⟨hR, hT⟩ := HCD.out.side k hk hW
          go_simp
          go_at_call 59
          refine ((HRS.out : RSide _ _ _ _ _ _ _ _ _ _) w hR hT (Nat.le_trans HCD.out.play.chg.size hW.size)).mono ?_
          rintro z w2 ⟨rfl, y', hR2, hT2, c2, hM2⟩
          exact hK.out _ w2 ⟨hb.keep c2 (fun f => by have := sideR_lt HCW.out k hk _ f; have := HBL.out; omega), v', y', HCD.out.done k hk xs' hW hE hS hM c2 hR2 hT2 hM2 HOK.out.1 HOK.out.2.1 HOK.out.2.2⟩ rfl
        · show StepR _ _ _ _ _ _  _ -- 114
          unfold StepR
          intro q u w hj hd K hK
          have h106 : u 106 = .int .i64 er := hd.get 6 (by kernel_rfl)
          have h113 : u 113 = .int .i64 er := hd.get 13 (by kernel_rfl)
          clear hd
          simp only [h106, h113] at hK
          go_simp
          exact hK.out (.bool true) rfl
      · intro u w1 hj hA K hK
        have e_ : u 114 = .bool true := hA.at 114 (by kernel_rfl)
        clear hA
        obtain ⟨_, v', y', hCE⟩ := hj
        have HCE : Hid (Cod w0 w1 P av bv (its.set k (its[k].to xs')) a r v' y' e') := hCE
        clear hCE
        go_simp
        refine hK.out _ _ ?_
        go_wp2
        go_ret
        exact ⟨rfl, v', y', HCE.out⟩
set_option maxHeartbeats 8000000 in
set_option maxRecDepth 100000 in
theorem codes_c (T : TreePut) (w0 w : World) (P : Nat) (av bv : Value) (its : List It) (a r : Nat) (v y : Value) (e : Rc.E) (kd row p n xv : Int) (k : Nat) (hk : k < its.length) (hkk : ofN its.length row = k) (h : Cod w0 w P av bv its a r v y e) (hp : I64 p) (hn : I64 n) (hx : I64 xv) (k0 : kd ≠ 0) (k1 : kd ≠ 1) (k3 : kd ≠ 3) (k4 : kd ≠ 4) :
    Calls Try.prog 28 #[.pointer (some ⟨P, 0, none⟩), .pointer (some ⟨a, 0, none⟩), .pointer (some ⟨r, 0, none⟩), .agg #[.int .i64 kd, .int .i64 row, .int .i64 p, .int .i64 n, .int .i64 xv]] w fun z w' => z = .returned (.bool true) ∧ Cod w0 w' P av bv its a r v y e := by
  have q0 : (kd == 0) = false := by simp; omega
  have q1 : (kd == 1) = false := by simp; omega
  have q3 : (kd == 3) = false := by simp; omega
  have q4 : (kd == 4) = false := by simp; omega
  have HKK : Hid (ofN its.length row = k) := hkk
  have HCW : Hid (Cod w0 w P av bv its a r v y e) := h
  obtain ⟨la, lac, hav, hlac, hga⟩ := h.play.a_at (by omega)
  obtain ⟨lb, lbc, hbv, hlbc, hgb⟩ := h.play.b_at (by omega)
  have cw := chg_one w (.cells #[.int .i64 kd, .int .i64 row, .int .i64 p, .int .i64 n, .int .i64 xv] 50)
  have HBX : Hid (Bx (w.alloc (.cells #[.int .i64 kd, .int .i64 row, .int .i64 p, .int .i64 n, .int .i64 xv] 50)) w.heap.size kd row p n xv) := ⟨heap_alloc_last w _⟩
  have HCD : Hid (Cod w0 (w.alloc (.cells #[.int .i64 kd, .int .i64 row, .int .i64 p, .int .i64 n, .int .i64 xv] 50)) P av bv its a r v y e) := h.new cw
  have hlaw := hga k hk
  have hlbw := hgb k hk
  have hpa := cell0 h.play.pair
  have hpb := cell1 h.play.pair
  rw [hav] at hpa
  rw [hbv] at hpb
  have Hla1 : Hid ((w.alloc (.cells #[.int .i64 kd, .int .i64 row, .int .i64 p, .int .i64 n, .int .i64 xv] 50)).cell? ⟨P, 0, none⟩ = some (.slice (some ⟨la, 0, none⟩) its.length lac)) := cell_chg hpa cw
  have Hlb1 : Hid ((w.alloc (.cells #[.int .i64 kd, .int .i64 row, .int .i64 p, .int .i64 n, .int .i64 xv] 50)).cell? ⟨P, 1, none⟩ = some (.slice (some ⟨lb, 0, none⟩) its.length lbc)) := cell_chg hpb cw
  have Hla2 : Hid ((w.alloc (.cells #[.int .i64 kd, .int .i64 row, .int .i64 p, .int .i64 n, .int .i64 xv] 50)).cell? ⟨la, k, none⟩ = some (.pointer (some ⟨its[k].a, 0, none⟩))) := cell_chg hlaw cw
  have Hlb2 : Hid ((w.alloc (.cells #[.int .i64 kd, .int .i64 row, .int .i64 p, .int .i64 n, .int .i64 xv] 50)).cell? ⟨lb, k, none⟩ = some (.pointer (some ⟨its[k].r, 0, none⟩))) := cell_chg hlbw cw
  have hkL : (k : Int) < (its.length : Int) := by omega
  clear hkk h hav hbv hga hgb cw hlaw hlbw hpa hpb
  go_enter Try.func28, Try.ntmps28
  go_wp2_with fail
  generalize w.alloc (.cells #[.int .i64 kd, .int .i64 row, .int .i64 p, .int .i64 n, .int .i64 xv] 50) = wB at *
  obtain ⟨b, hb⟩ : ∃ b, w.heap.size = b := ⟨_, rfl⟩
  have HBL : Hid (w.heap.size = b) := hb
  rw [hb] at HBX ⊢
  clear hb
  refine wp_region_phase (mk := fun u => #[_, _, _, _, _, _, _, _, _, _, _, _, _, _, _, _, _, _, _, u 19, u 20, u 21, u 22, u 23, u 24, u 25, u 26, u 27, _, _, _, _, _, _, _, _, _, _, _, _, _, _, _, _, _, _, _, _, _, _, _, _, _, _, _, _, _, _, _, _, _, _, _, _, _, _, _, _, _, _, _, _, _, _, _, _, _, _, _, _, _, _, _, _, _, _, _, _, _, _, _, _, _, _, _, _, _, _, _, _, _, _, _, _, _, _, _, _, _, _, _, _, _, _, _, _, _, _, _, _, _, _, _, _, _, _, _, _, _, _, _, _, _, _, _, _, _, _, _, _, _, _, _, _, _, _, _, _, _, _, _, _, _, _, _, _, _, _, _, _, _, _, _, _, _, _, _, _, _, _, _, _, _, _, _, _, _]) (G := lookG [(19, .pointer (some ⟨P, 0, none⟩)), (20, .pointer (some ⟨P, 0, none⟩)), (21, .pointer (some ⟨P, 0, none⟩)), (22, .slice (some ⟨la, 0, none⟩) its.length lac), (23, .pointer (some ⟨P, 0, none⟩)), (24, .agg #[.int .i64 kd, .int .i64 row, .int .i64 p, .int .i64 n, .int .i64 xv]), (25, .int .i64 (k : Int)), (26, .pointer (some ⟨la, k, none⟩)), (27, .pointer (some ⟨its[k].a, 0, none⟩))]) (J := fun _ _ w => Chg (fun _ => False) wB w) [6] (fun _ => undef) rfl (by kernel_rfl) 9 _ rfl rfl (by kernel_rfl) (by kernel_rfl) (by kernel_rfl) (by decide) ?_ ?_ ?_ ?_ ?_
  · repeat (refine ⟨⟨_, rfl, fun _ _ => rfl⟩, ?_⟩)
    exact trivial
  · exact fun q u u2 w _ h => h
  · exact (Chg.refl _ wB).drew
  · refine ⟨?_, ?_, ?_, ?_, ?_, ?_, ?_, ?_, ?_, trivial⟩
    · show StepR _ _ _ _ _ _  _ -- 19
      unfold StepR
      intro q u w hj hd K hK
      clear hd
      go_simp
      exact hK.out (.pointer (some ⟨P, 0, none⟩)) rfl
    · show StepR _ _ _ _ _ _  _ -- 20
      unfold StepR
      intro q u w hj hd K hK
      have h19 : u 19 = .pointer (some ⟨P, 0, none⟩) := hd.get 0 (by kernel_rfl)
      clear hd
      simp only [h19] at hK
      go_simp
      exact hK.out (.pointer (some ⟨P, 0, none⟩)) rfl
    · show StepR _ _ _ _ _ _  _ -- 21
      unfold StepR
      intro q u w hj hd K hK
      have h20 : u 20 = .pointer (some ⟨P, 0, none⟩) := hd.get 1 (by kernel_rfl)
      clear hd
      simp only [h20] at hK
      go_simp
      exact hK.out (.pointer (some ⟨P, 0, none⟩)) rfl
    · show StepR _ _ _ _ _ _  _ -- 22
      unfold StepR
      intro q u w hj hd K hK
      have h21 : u 21 = .pointer (some ⟨P, 0, none⟩) := hd.get 2 (by kernel_rfl)
      clear hd
      simp only [h21] at hK
      have hcell := cell_chg Hla1.out hj
      go_simp
      exact hK.out _ rfl
    · show StepR _ _ _ _ _ _  _ -- 23
      unfold StepR
      intro q u w hj hd K hK
      clear hd
      go_simp
      exact hK.out (.pointer (some ⟨P, 0, none⟩)) rfl
    · show StepR _ _ _ _ _ _  _ -- 24
      unfold StepR
      intro q u w hj hd K hK
      clear hd
      obtain ⟨b0, b1, b2, b3, b4⟩ := (HBX.out.keep hj (fun f => f)).cells
      go_simp
      exact hK.out _ rfl
    · show StepW _ _ _ _ _ _ 0 _ -- 25
      unfold StepW
      intro u w hj hd K hK
      have h23 : u 23 = .pointer (some ⟨P, 0, none⟩) := hd.get 4 (by kernel_rfl)
      have h24 : u 24 = .agg #[.int .i64 kd, .int .i64 row, .int .i64 p, .int .i64 n, .int .i64 xv] := hd.get 5 (by kernel_rfl)
      clear hd
      simp only [h23, h24] at hK
      go_simp
      go_at_call 49
      refine (of_any w0 w P av bv its kd row p n xv (HCD.out.play.new hj)).mono ?_
      rintro z w2 ⟨rfl, c2⟩
      rw [HKK.out]
      exact hK.out _ w2 (chg_then hj c2) rfl
    · show StepR _ _ _ _ _ _  _ -- 26
      unfold StepR
      intro q u w hj hd K hK
      have h22 : u 22 = .slice (some ⟨la, 0, none⟩) its.length lac := hd.get 3 (by kernel_rfl)
      have h25 : u 25 = .int .i64 (k : Int) := hd.get 6 (by kernel_rfl)
      clear hd
      simp only [h22, h25] at hK
      go_simp
      exact hK.out (.pointer (some ⟨la, k, none⟩)) rfl
    · show StepR _ _ _ _ _ _  _ -- 27
      unfold StepR
      intro q u w hj hd K hK
      have h26 : u 26 = .pointer (some ⟨la, k, none⟩) := hd.get 7 (by kernel_rfl)
      clear hd
      simp only [h26] at hK
      have hcell := cell_chg Hla2.out hj
      go_simp
      exact hK.out _ rfl
  · intro u w1 hj hA K hK
    have e27 : u 27 = .pointer (some ⟨its[k].a, 0, none⟩) := hA.at 27 (by kernel_rfl)
    clear hA
    have HBX2 : Hid (Bx w1 b kd row p n xv) := HBX.out.keep hj (fun f => f)
    have HCD2 : Hid (Cod w0 w1 P av bv its a r v y e) := HCD.out.new hj
    have Hlb1 : Hid (w1.cell? ⟨P, 1, none⟩ = some (.slice (some ⟨lb, 0, none⟩) its.length lbc)) := cell_chg Hlb1.out hj
    have Hlb2 : Hid (w1.cell? ⟨lb, k, none⟩ = some (.pointer (some ⟨its[k].r, 0, none⟩))) := cell_chg Hlb2.out hj
    clear hj HBX HCD Hla1 Hla2
    go_simp
    refine hK.out _ _ ?_
    clear hK
    generalize w1 = wB at *
    have HBX := HBX2
    have HCD := HCD2
    clear HBX2 HCD2
    go_wp2_with fail
    refine wp_region_phase (mk := fun u => #[_, _, _, _, _, _, _, _, _, _, _, _, _, _, _, _, _, _, _, _, _, _, _, _, _, _, _, _, u 28, u 29, u 30, u 31, u 32, u 33, u 34, u 35, u 36, _, _, _, _, _, _, _, _, _, _, _, _, _, _, _, _, _, _, _, _, _, _, _, _, _, _, _, _, _, _, _, _, _, _, _, _, _, _, _, _, _, _, _, _, _, _, _, _, _, _, _, _, _, _, _, _, _, _, _, _, _, _, _, _, _, _, _, _, _, _, _, _, _, _, _, _, _, _, _, _, _, _, _, _, _, _, _, _, _, _, _, _, _, _, _, _, _, _, _, _, _, _, _, _, _, _, _, _, _, _, _, _, _, _, _, _, _, _, _, _, _, _, _, _, _, _, _, _, _, _, _, _, _, _, _, _, _, _, _, _]) (G := lookG [(28, .pointer (some ⟨P, 0, none⟩)), (29, .pointer (some ⟨P, 0, none⟩)), (30, .pointer (some ⟨P, 1, none⟩)), (31, .slice (some ⟨lb, 0, none⟩) its.length lbc), (32, .pointer (some ⟨P, 0, none⟩)), (33, .agg #[.int .i64 kd, .int .i64 row, .int .i64 p, .int .i64 n, .int .i64 xv]), (34, .int .i64 (k : Int)), (35, .pointer (some ⟨lb, k, none⟩)), (36, .pointer (some ⟨its[k].r, 0, none⟩))]) (J := fun _ _ w => Chg (fun _ => False) wB w) [6] (fun _ => undef) rfl (by kernel_rfl) 9 _ rfl rfl (by kernel_rfl) (by kernel_rfl) (by kernel_rfl) (by decide) ?_ ?_ ?_ ?_ ?_
    · repeat (refine ⟨⟨_, rfl, fun _ _ => rfl⟩, ?_⟩)
      exact trivial
    · exact fun q u u2 w _ h => h
    · exact (Chg.refl _ wB).drew
    · refine ⟨?_, ?_, ?_, ?_, ?_, ?_, ?_, ?_, ?_, trivial⟩
      · show StepR _ _ _ _ _ _  _ -- 28
        unfold StepR
        intro q u w hj hd K hK
        clear hd
        go_simp
        exact hK.out (.pointer (some ⟨P, 0, none⟩)) rfl
      · show StepR _ _ _ _ _ _  _ -- 29
        unfold StepR
        intro q u w hj hd K hK
        have h28 : u 28 = .pointer (some ⟨P, 0, none⟩) := hd.get 0 (by kernel_rfl)
        clear hd
        simp only [h28] at hK
        go_simp
        exact hK.out (.pointer (some ⟨P, 0, none⟩)) rfl
      · show StepR _ _ _ _ _ _  _ -- 30
        unfold StepR
        intro q u w hj hd K hK
        have h29 : u 29 = .pointer (some ⟨P, 0, none⟩) := hd.get 1 (by kernel_rfl)
        clear hd
        simp only [h29] at hK
        go_simp
        exact hK.out (.pointer (some ⟨P, 1, none⟩)) rfl
      · show StepR _ _ _ _ _ _  _ -- 31
        unfold StepR
        intro q u w hj hd K hK
        have h30 : u 30 = .pointer (some ⟨P, 1, none⟩) := hd.get 2 (by kernel_rfl)
        clear hd
        simp only [h30] at hK
        have hcell := cell_chg Hlb1.out hj
        go_simp
        exact hK.out _ rfl
      · show StepR _ _ _ _ _ _  _ -- 32
        unfold StepR
        intro q u w hj hd K hK
        clear hd
        go_simp
        exact hK.out (.pointer (some ⟨P, 0, none⟩)) rfl
      · show StepR _ _ _ _ _ _  _ -- 33
        unfold StepR
        intro q u w hj hd K hK
        clear hd
        obtain ⟨b0, b1, b2, b3, b4⟩ := (HBX.out.keep hj (fun f => f)).cells
        go_simp
        exact hK.out _ rfl
      · show StepW _ _ _ _ _ _ 0 _ -- 34
        unfold StepW
        intro u w hj hd K hK
        have h32 : u 32 = .pointer (some ⟨P, 0, none⟩) := hd.get 4 (by kernel_rfl)
        have h33 : u 33 = .agg #[.int .i64 kd, .int .i64 row, .int .i64 p, .int .i64 n, .int .i64 xv] := hd.get 5 (by kernel_rfl)
        clear hd
        simp only [h32, h33] at hK
        go_simp
        go_at_call 49
        refine (of_any w0 w P av bv its kd row p n xv (HCD.out.play.new hj)).mono ?_
        rintro z w2 ⟨rfl, c2⟩
        rw [HKK.out]
        exact hK.out _ w2 (chg_then hj c2) rfl
      · show StepR _ _ _ _ _ _  _ -- 35
        unfold StepR
        intro q u w hj hd K hK
        have h31 : u 31 = .slice (some ⟨lb, 0, none⟩) its.length lbc := hd.get 3 (by kernel_rfl)
        have h34 : u 34 = .int .i64 (k : Int) := hd.get 6 (by kernel_rfl)
        clear hd
        simp only [h31, h34] at hK
        go_simp
        exact hK.out (.pointer (some ⟨lb, k, none⟩)) rfl
      · show StepR _ _ _ _ _ _  _ -- 36
        unfold StepR
        intro q u w hj hd K hK
        have h35 : u 35 = .pointer (some ⟨lb, k, none⟩) := hd.get 7 (by kernel_rfl)
        clear hd
        simp only [h35] at hK
        have hcell := cell_chg Hlb2.out hj
        go_simp
        exact hK.out _ rfl
    · intro u w1 hj hA K hK
      have e36 : u 36 = .pointer (some ⟨its[k].r, 0, none⟩) := hA.at 36 (by kernel_rfl)
      clear hA
      have HBX2 : Hid (Bx w1 b kd row p n xv) := HBX.out.keep hj (fun f => f)
      have HCD2 : Hid (Cod w0 w1 P av bv its a r v y e) := HCD.out.new hj
      clear hj HBX HCD Hlb1 Hlb2
      go_simp
      refine hK.out _ _ ?_
      clear hK
      generalize w1 = wA at *
      have HBX := HBX2
      have HCD := HCD2
      clear HBX2 HCD2
      obtain ⟨b0, b1, b2, b3, b4⟩ := HBX.out.cells
      obtain ⟨c0, hc0⟩ : ∃ c0 : Int, costW its[k].xs p.toNat 1 (bitsOf false n.toNat xv.toNat) = c0 := ⟨_, rfl⟩
      obtain ⟨c1, hc1⟩ : ∃ c1 : Int, costW its[k].xs p.toNat 1 (bitsOf true n.toNat xv.toNat) = c1 := ⟨_, rfl⟩
      have HC0 : Hid (costW its[k].xs p.toNat 1 (bitsOf false n.toNat xv.toNat) = c0) := hc0
      have HC1 : Hid (costW its[k].xs p.toNat 1 (bitsOf true n.toNat xv.toNat) = c1) := hc1
      clear hc0 hc1
      by_cases hf : Fits its[k].xs.length p n xv
      · have HF : Hid (Fits its[k].xs.length p n xv) := hf
        clear hf
        go_wp2_with fail
        refine (T.cost false w0.heap.size its[k].a its[k].v its[k].xs p n xv _ (HCD.out.play.good k hk).st (HCD.out.inn k hk) (HCD.out.play.good k hk).len hp hn hx).mono ?_
        rintro z w2 (⟨h1, _⟩ | ⟨_, rfl, c2⟩)
        · exact absurd HF.out h1
        rw [HC0.out]
        have HBX2 : Hid (Bx w2 b kd row p n xv) := HBX.out.keep c2 (fun f => f)
        have HCD2 : Hid (Cod w0 w2 P av bv its a r v y e) := HCD.out.new c2
        clear c2 HBX HCD b0 b1 b2 b3 b4
        generalize w2 = wA at *
        have HBX := HBX2
        have HCD := HCD2
        clear HBX2 HCD2
        obtain ⟨b0, b1, b2, b3, b4⟩ := HBX.out.cells
        go_wp2_with fail
        refine (refcost_any w0.heap.size its[k].r its[k].n its[k].u its[k].xs p n xv false its[k].xs.length _ (HCD.out.play.good k hk).rt (HCD.out.inn k hk) rfl (HCD.out.play.good k hk).len hp hn).mono ?_
        rintro z w2 (⟨h1, _⟩ | ⟨_, rfl, c2⟩)
        · exact absurd HF.out h1
        rw [HC0.out]
        have HBX2 : Hid (Bx w2 b kd row p n xv) := HBX.out.keep c2 (fun f => f)
        have HCD2 : Hid (Cod w0 w2 P av bv its a r v y e) := HCD.out.new c2
        clear c2 HBX HCD b0 b1 b2 b3 b4
        generalize w2 = wA at *
        have HBX := HBX2
        have HCD := HCD2
        clear HBX2 HCD2
        obtain ⟨b0, b1, b2, b3, b4⟩ := HBX.out.cells
        go_wp2_with fail
        refine (T.cost true w0.heap.size its[k].a its[k].v its[k].xs p n xv _ (HCD.out.play.good k hk).st (HCD.out.inn k hk) (HCD.out.play.good k hk).len hp hn hx).mono ?_
        rintro z w2 (⟨h1, _⟩ | ⟨_, rfl, c2⟩)
        · exact absurd HF.out h1
        rw [HC1.out]
        have HBX2 : Hid (Bx w2 b kd row p n xv) := HBX.out.keep c2 (fun f => f)
        have HCD2 : Hid (Cod w0 w2 P av bv its a r v y e) := HCD.out.new c2
        clear c2 HBX HCD b0 b1 b2 b3 b4
        generalize w2 = wA at *
        have HBX := HBX2
        have HCD := HCD2
        clear HBX2 HCD2
        obtain ⟨b0, b1, b2, b3, b4⟩ := HBX.out.cells
        go_wp2_with fail
        refine (refcost_any w0.heap.size its[k].r its[k].n its[k].u its[k].xs p n xv true its[k].xs.length _ (HCD.out.play.good k hk).rt (HCD.out.inn k hk) rfl (HCD.out.play.good k hk).len hp hn).mono ?_
        rintro z w2 (⟨h1, _⟩ | ⟨_, rfl, c2⟩)
        · exact absurd HF.out h1
        rw [HC1.out]
        have HBX2 : Hid (Bx w2 b kd row p n xv) := HBX.out.keep c2 (fun f => f)
        have HCD2 : Hid (Cod w0 w2 P av bv its a r v y e) := HCD.out.new c2
        clear c2 HBX HCD b0 b1 b2 b3 b4
        generalize w2 = wA at *
        have HBX := HBX2
        have HCD := HCD2
        clear HBX2 HCD2
        obtain ⟨b0, b1, b2, b3, b4⟩ := HBX.out.cells
        clear b0 b1 b2 b3 b4
        go_wp2
        go_ret
        exact ⟨rfl, HCD.out⟩
      · have HF : Hid (¬ Fits its[k].xs.length p n xv) := hf
        clear hf
        go_wp2_with fail
        refine (T.cost false w0.heap.size its[k].a its[k].v its[k].xs p n xv _ (HCD.out.play.good k hk).st (HCD.out.inn k hk) (HCD.out.play.good k hk).len hp hn hx).mono ?_
        rintro z w2 (⟨_, rfl, c2⟩ | ⟨h1, _⟩)
        rotate_left
        · exact absurd h1 HF.out
        have HBX2 : Hid (Bx w2 b kd row p n xv) := HBX.out.keep c2 (fun f => f)
        have HCD2 : Hid (Cod w0 w2 P av bv its a r v y e) := HCD.out.new c2
        clear c2 HBX HCD b0 b1 b2 b3 b4
        generalize w2 = wA at *
        have HBX := HBX2
        have HCD := HCD2
        clear HBX2 HCD2
        obtain ⟨b0, b1, b2, b3, b4⟩ := HBX.out.cells
        go_wp2_with fail
        refine (refcost_any w0.heap.size its[k].r its[k].n its[k].u its[k].xs p n xv false its[k].xs.length _ (HCD.out.play.good k hk).rt (HCD.out.inn k hk) rfl (HCD.out.play.good k hk).len hp hn).mono ?_
        rintro z w2 (⟨_, rfl, c2⟩ | ⟨h1, _⟩)
        rotate_left
        · exact absurd h1 HF.out
        have HBX2 : Hid (Bx w2 b kd row p n xv) := HBX.out.keep c2 (fun f => f)
        have HCD2 : Hid (Cod w0 w2 P av bv its a r v y e) := HCD.out.new c2
        clear c2 HBX HCD b0 b1 b2 b3 b4
        generalize w2 = wA at *
        have HBX := HBX2
        have HCD := HCD2
        clear HBX2 HCD2
        obtain ⟨b0, b1, b2, b3, b4⟩ := HBX.out.cells
        go_wp2_with fail
        refine (T.cost true w0.heap.size its[k].a its[k].v its[k].xs p n xv _ (HCD.out.play.good k hk).st (HCD.out.inn k hk) (HCD.out.play.good k hk).len hp hn hx).mono ?_
        rintro z w2 (⟨_, rfl, c2⟩ | ⟨h1, _⟩)
        rotate_left
        · exact absurd h1 HF.out
        have HBX2 : Hid (Bx w2 b kd row p n xv) := HBX.out.keep c2 (fun f => f)
        have HCD2 : Hid (Cod w0 w2 P av bv its a r v y e) := HCD.out.new c2
        clear c2 HBX HCD b0 b1 b2 b3 b4
        generalize w2 = wA at *
        have HBX := HBX2
        have HCD := HCD2
        clear HBX2 HCD2
        obtain ⟨b0, b1, b2, b3, b4⟩ := HBX.out.cells
        go_wp2_with fail
        refine (refcost_any w0.heap.size its[k].r its[k].n its[k].u its[k].xs p n xv true its[k].xs.length _ (HCD.out.play.good k hk).rt (HCD.out.inn k hk) rfl (HCD.out.play.good k hk).len hp hn).mono ?_
        rintro z w2 (⟨_, rfl, c2⟩ | ⟨h1, _⟩)
        rotate_left
        · exact absurd h1 HF.out
        have HBX2 : Hid (Bx w2 b kd row p n xv) := HBX.out.keep c2 (fun f => f)
        have HCD2 : Hid (Cod w0 w2 P av bv its a r v y e) := HCD.out.new c2
        clear c2 HBX HCD b0 b1 b2 b3 b4
        generalize w2 = wA at *
        have HBX := HBX2
        have HCD := HCD2
        clear HBX2 HCD2
        obtain ⟨b0, b1, b2, b3, b4⟩ := HBX.out.cells
        clear b0 b1 b2 b3 b4
        go_wp2
        go_ret
        exact ⟨rfl, HCD.out⟩
end Go.Proofs.Ytibgjpifmpljkaa
