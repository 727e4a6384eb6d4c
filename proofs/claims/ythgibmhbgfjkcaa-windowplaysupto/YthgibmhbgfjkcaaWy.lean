/- The contract of the law's plays: Put; of no statement by itself. -/
import Derived.Test.YthgibmhbgfjkcaaWx
namespace Go.Proofs.Ythgibmhbgfjkcaa
open Go.RowKit
set_option linter.unusedVariables false

variable {Win : World → Nat → Nat → Value → Nat → List Nat → Prop}
theorem from_one8 (w : World) (x : Value) (t : TypeId) : From (w.alloc (.cells #[x] t)) (some ⟨w.heap.size, 0, none⟩) 1 1 1 [x] := by
  refine ⟨rfl, .inr ⟨_, rfl, fun j u hu => ?_⟩⟩
  have hb : (w.alloc (.cells #[x] t)).heap[w.heap.size]? = some (.cells #[x] t (0, 0)) := heap_alloc_last _ _
  match j, hu with
  | 0, hu =>
    simp at hu
    subst hu
    rw [addk]
    exact cell00 hb
theorem own_front {w : World} {B g nb lc : Nat} {bs : List Nat} {q : Int} (hl : bs.length = nb) (h : w.ownsRow B 5 1 (.slice (some ⟨g, 0, none⟩) (nb + 1) lc) (nb + 1) (ins .u8 (nums bs) ++ [.int .u8 q])) : Row8 w (some ⟨g, 0, none⟩) nb lc (nums bs) ∧ w.cell? ⟨g, nb, none⟩ = some (.int .u8 q) ∧ nb + 1 ≤ lc := by
  obtain ⟨g', cap, e, hc, _, _, _, _, hcl⟩ := own_some h (by omega)
  cases e
  refine ⟨⟨by rw [nums_len]; exact hl, .inr ⟨_, rfl, fun j x hx => ?_⟩⟩, hcl nb _ ?_, hc⟩
  · rw [addk, Nat.zero_add]
    refine hcl j x ?_
    have hj : j < (ins .u8 (nums bs)).length := (List.getElem?_eq_some_iff.1 hx).1
    rw [List.getElem?_append_left hj]
    exact hx
  · rw [List.getElem?_append_right (by rw [ins_len, nums_len]; omega), ins_len, nums_len, hl, Nat.sub_self]
    rfl
theorem Trn.aside (S : WinSpec Win) {w0 w w' : World} {B a r : Nat} {v0 y0 v y : Value} {n : Nat} {bs cs : List Nat} {T : Nat → Prop} (h : Trn Win w0 w B a r v0 y0 v y n bs cs) (hc : Chg T w w') (h1 : ∀ z, T z → ¬ Foot a v z) (h2 : ∀ z, T z → ¬ Foot r y z) (h3 : ∀ z, T z → w0.heap.size ≤ z) : Trn Win w0 w' B a r v0 y0 v y n bs cs :=
  ⟨⟨S.keep h.two.win hc (fun z f g => h1 z g f), h.two.rw.keep hc (fun z f g => h2 z g f), h.two.dis⟩, h.chg.trans hc (fun z f => .inr (h3 z f)), h.mv, h.my⟩
set_option maxHeartbeats 8000000 in
set_option maxRecDepth 100000 in
theorem plays_put (S : WinSpec Win) (w0 wA : World) (lv bv : Value) (its : List Pr) (hs : List Bk.Hd) (hp : Pl Win w0 wA lv its bv hs) (i : Nat) (hi : i < its.length) (a r : Nat) (v y : Value) (n : Nat) (bs : List Nat) (hx : its[i] = ⟨a, r, v, y, n, bs⟩) (wi dist nn : Int) (ad : Option Addr) (len cap : Nat) (xs : List Nat) (hrow : Row8 w0 ad len cap (nums xs)) (hdig : Rc.Dig xs) (hlen : len + 1 ≤ 140737488355328) (hl : bs.length + len ≤ 140737488355328) : Calls Try.prog 20 #[.agg #[.pointer (some ⟨a, 0, none⟩), .pointer (some ⟨r, 0, none⟩)], .agg #[.int .i64 1, .int .i64 wi, .int .i64 dist, .int .i64 nn, .slice ad len cap], bv] wA fun e w' => e = .returned (.tuple #[bv, .bool true]) ∧ ∃ v' y', Pl Win w0 w' lv (its.set i ⟨a, r, v', y', n, bs ++ xs⟩) bv hs := by
  obtain ⟨iu, hiu, hu0, hu1, hu2⟩ := info_parts infoU8
  have ht := hp.two i hi hx
  have HPL : Hid (Pl Win w0 wA lv its bv hs) := hp
  have HX : Hid (its[i] = ⟨a, r, v, y, n, bs⟩) := hx
  have HR0 : Hid (Row8 w0 ad len cap (nums xs)) := hrow
  have hB : w0.heap.size ≤ wA.heap.size := hp.chg.size
  have hxl : xs.length = len := by have := hrow.1; rw [nums_len] at this; exact this
  have HXL : Hid (xs.length = len) := hxl
  obtain ⟨hbx, hcx⟩ := Bxs.make wA a r 1 wi dist nn ad len cap
  obtain ⟨x0, x1, x2, x3, x4, x5⟩ := hbx.cells
  have HB : Hid (Bxs _ _ _ _ _ _ _ _ _ _ _) := hbx
  have HT : Hid (Trn Win wA ((wA.alloc (.cells #[.pointer (some ⟨a, 0, none⟩), .pointer (some ⟨r, 0, none⟩)] 48)).alloc (.cells #[.int .i64 1, .int .i64 wi, .int .i64 dist, .int .i64 nn, .slice ad len cap] 37)) w0.heap.size a r v y v y n bs bs) := Trn.start S ht hcx
  have HC : Hid (Chg (fun _ => False) wA ((wA.alloc (.cells #[.pointer (some ⟨a, 0, none⟩), .pointer (some ⟨r, 0, none⟩)] 48)).alloc (.cells #[.int .i64 1, .int .i64 wi, .int .i64 dist, .int .i64 nn, .slice ad len cap] 37))) := hcx
  have hone := one8 xs
  clear hbx hcx ht hp hx hrow hxl
  go_enter Try.func20, Try.ntmps20
  go_upto_region 3 with fail
  generalize ((wA.alloc (.cells #[.pointer (some ⟨a, 0, none⟩), .pointer (some ⟨r, 0, none⟩)] 48)).alloc (.cells #[.int .i64 1, .int .i64 wi, .int .i64 dist, .int .i64 nn, .slice ad len cap] 37)) = W at *
  obtain ⟨P, hP⟩ : ∃ P, wA.heap.size = P := ⟨_, rfl⟩
  have HP : Hid (wA.heap.size = P) := hP
  rw [hP] at HB x0 x1 x2 x3 x4 x5 ⊢
  clear hP
  have cE := chg_one W (.cells #[] 5)
  have hoE := own_empty W 5
  have hsrc := (Bk.row8_chg HR0.out (chg_then HPL.out.chg (chg_then HC.out cE))).src
  have hszE : W.heap.size ≤ (W.alloc (.cells #[] 5)).heap.size := cE.size
  have HCE : Hid (Chg (fun _ => False) W (W.alloc (.cells #[] 5))) := cE
  have x6 : (W.alloc (.cells #[] 5)).cell? ⟨P + 1, 4, none⟩ = some (.slice ad len cap) := cell_chg x5 cE
  clear cE
  go_wp2_with (at_builtin; refine wpList_append_moved rfl _ _ 22 rfl W.heap.size 5 iu (.int .u8 0) 1 1 Try.underlying22 hiu hu0 hu1 hu2 rfl (by decide) _ 0 [] rfl ad len cap rfl ((nums xs).map (Value.int .u8)) hoE hsrc hone (by unfold maxLen; omega) (by omega) hszE ?_)
  intro vq wq hoq hgq _
  have cq : Chg (fun _ => False) W wq := HCE.out.grown hgq (fun k e => .inr (by cases e; exact Nat.le_refl _))
  have hoq' : wq.ownsRow W.heap.size 5 1 vq len (ins .u8 (nums xs)) := by simpa [ins_map] using hoq
  obtain ⟨aq, dq, hvq⟩ := form1 hoq'
  subst hvq
  have cB := chg_one wq (.cells #[.int .u8 165] 5)
  have hsr2 := from_one8 wq (.int .u8 165) 5
  have ho3 := ownsRow_keep hoq' cB (fun _ _ f => f)
  have hs3 : W.heap.size ≤ (wq.alloc (.cells #[.int .u8 165] 5)).heap.size := Nat.le_trans cq.size cB.size
  have HCq : Hid (Chg (fun _ => False) W (wq.alloc (.cells #[.int .u8 165] 5))) := chg_then cq cB
  clear x6 hoq hgq cq hoq' hoE hsrc hone hszE HCE cB
  go_wp2_with (at_builtin; refine wpList_append_moved rfl _ _ 22 rfl W.heap.size 5 iu (.int .u8 0) 1 1 Try.underlying22 hiu hu0 hu1 hu2 rfl (by decide) _ len (ins .u8 (nums xs)) rfl (some ⟨wq.heap.size, 0, none⟩) 1 1 rfl [.int .u8 165] ho3 hsr2 (fun u hu => by simp at hu; subst hu; rfl) (by unfold maxLen; omega) (by omega) hs3 ?_)
  intro vf wf ho4 hg4 _
  have cf : Chg (fun _ => False) W wf := HCq.out.grown hg4 (fun k e => .inr (ho3.lt k e).1)
  obtain ⟨g, fc, hvf, hfc, hgl, _⟩ := own_some ho4 (by omega)
  subst hvf
  have HOL : Hid (wf.ownsRow W.heap.size 5 1 (.slice (some ⟨g, 0, none⟩) (len + 1) fc) (len + 1) (ins .u8 (nums xs) ++ [.int .u8 165])) := ho4
  have HG : Hid (wA.heap.size ≤ g ∧ g < wf.heap.size) := ⟨Nat.le_trans HC.out.size hgl, (ho4.lt g rfl).2⟩
  have HTf : Hid (Trn Win wA wf w0.heap.size a r v y v y n bs bs) := HT.out.new S cf
  have HBf : Hid (Bxs wf P a r 1 wi dist nn ad len cap) := HB.out.new cf
  have HCf : Hid (Chg (fun _ => False) wA wf) := chg_then HC.out cf
  have HGa : Hid (¬ Foot a v g) := fun f => by
    have h1 := (S.lt HT.out.two.win g f).2
    omega
  have HGr : Hid (¬ Foot r y g) := fun f => by
    have h1 := (HT.out.two.rw.lt f).2
    omega
  have hlci : (len : Int) ≤ (fc : Int) := by omega
  have hlcn : len ≤ fc := by omega
  clear ho3 hsr2 hs3 ho4 hg4 HCq hgl cf HT HB HC x0 x1 x2 x3 x4 x5
  go_wp2_with fail
  refine wp_region_phaseQ (mk := fun u => #[_, _, _, _, _, _, _, _, _, _, _, _, _, _, _, _, _, _, _, _, _, _, _, _, _, _, _, _, _, _, u 30, u 31, u 32, u 33, u 34, u 35, u 36, _, _, _, _, _, _, _, _, _, _, _, _, _, _, _, _, _, _, _, _, _, _, _, _, _, _, _, _, _, _, _, _, _, _, _, _, _, _, _, _, _, _, _, _, _, _, _, _, _, _, _, _, _, _, _, _, _, _, _, _, _, _, _, _, _, _, _, _, _, _, _, _, _, _, _, _, _, _, _, _, _, _, _, _, _, _, _, _, _, _, _, _, _, _, _, _, _, _, _, _, _, _, _, _, _, _, _, _, _, _, _, _, _, _, _, _, _, _, _, _, _, _, _, _, _, _, _, _, _, _, _, _, _, _, _, _, _, _, _, _, _, _, _, _, _, _, _, _, _, _]) (G := lookG [(30, .pointer (some ⟨P, 0, none⟩)), (31, .pointer (some ⟨a, 0, none⟩)), (32, .slice (some ⟨g, 0, none⟩) (len + 1) fc), (33, .pointer (some ⟨P + 1, 4, none⟩)), (34, .slice ad len cap), (35, .int .i64 (len : Int)), (36, .slice (some ⟨g, 0, none⟩) len fc)]) (J := fun _ _ w => Chg (fun _ => False) wf w) [] (fun i =>  0) ([]) (fun _ => undef) rfl (by kernel_rfl) 7 _ rfl rfl (by kernel_rfl) (by kernel_rfl) (by kernel_rfl) (by decide) ?_ ?_ ?_ (by kernel_rfl) ?_ ?_
  · repeat (refine ⟨fun _ _ => rfl, ?_⟩)
    exact trivial
  · exact fun q u u2 w _ h => h
  · exact (Chg.refl _ _).drew
  · refine ⟨?_, ?_, ?_, ?_, ?_, ?_, ?_, trivial⟩
    · show StepRQ _ _ _ _ _ _ _ _ _ -- 30
      unfold StepRQ
      intro q hq u w hj hd K hK
      clear hd
      go_simp
      exact hK.out (.pointer (some ⟨P, 0, none⟩)) rfl
    · show StepRQ _ _ _ _ _ _ _ _ _ -- 31
      unfold StepRQ
      intro q hq u w hj hd K hK
      have h30 : u 30 = .pointer (some ⟨P, 0, none⟩) := hd.get 0 (by kernel_rfl)
      clear hd
      simp only [h30] at hK
      have hcell := (HBf.out.new hj).cells.1
      go_simp
      exact hK.out _ rfl
    · show StepRQ _ _ _ _ _ _ _ _ _ -- 32
      unfold StepRQ
      intro q hq u w hj hd K hK
      clear hd
      go_simp
      exact hK.out (.slice (some ⟨g, 0, none⟩) (len + 1) fc) rfl
    · show StepRQ _ _ _ _ _ _ _ _ _ -- 33
      unfold StepRQ
      intro q hq u w hj hd K hK
      clear hd
      go_simp
      exact hK.out (.pointer (some ⟨P + 1, 4, none⟩)) rfl
    · show StepRQ _ _ _ _ _ _ _ _ _ -- 34
      unfold StepRQ
      intro q hq u w hj hd K hK
      have h33 : u 33 = .pointer (some ⟨P + 1, 4, none⟩) := hd.get 3 (by kernel_rfl)
      clear hd
      simp only [h33] at hK
      have hcell := (HBf.out.new hj).cells.2.2.2.2.2
      go_simp
      exact hK.out _ rfl
    · show StepRQ _ _ _ _ _ _ _ _ _ -- 35
      unfold StepRQ
      intro q hq u w hj hd K hK
      have h34 : u 34 = .slice ad len cap := hd.get 4 (by kernel_rfl)
      clear hd
      simp only [h34] at hK
      go_simp
      exact hK.out (.int .i64 (len : Int)) rfl
    · show StepRQ _ _ _ _ _ _ _ _ _ -- 36
      unfold StepRQ
      intro q hq u w hj hd K hK
      have h32 : u 32 = .slice (some ⟨g, 0, none⟩) (len + 1) fc := hd.get 2 (by kernel_rfl)
      have h35 : u 35 = .int .i64 (len : Int) := hd.get 5 (by kernel_rfl)
      clear hd
      simp only [h32, h35] at hK
      go_simp
      exact hK.out (.slice (some ⟨g, 0, none⟩) len fc) rfl
  · intro u w hj hA K hK
    have e31 : u 31 = .pointer (some ⟨a, 0, none⟩) := hA.at 31 (by kernel_rfl)
    have e36 : u 36 = .slice (some ⟨g, 0, none⟩) len fc := hA.at 36 (by kernel_rfl)
    clear hA
    have HT5 : Hid (Trn Win wA w w0.heap.size a r v y v y n bs bs) := HTf.out.new S hj
    have HB5 : Hid (Bxs w P a r 1 wi dist nn ad len cap) := HBf.out.new hj
    have HO5 : Hid (w.ownsRow W.heap.size 5 1 (.slice (some ⟨g, 0, none⟩) (len + 1) fc) (len + 1) (ins .u8 (nums xs) ++ [.int .u8 165])) := ownsRow_keep HOL.out hj (fun _ _ f => f)
    have HG5 : Hid (wA.heap.size ≤ g ∧ g < w.heap.size) := ⟨HG.out.1, Nat.lt_of_lt_of_le HG.out.2 hj.size⟩
    have HC5 : Hid (Chg (fun _ => False) wA w) := chg_then HCf.out hj
    clear hj HTf HBf HOL HG HCf
    go_simp
    go_at_call 10
    refine (S.put w0.heap.size a v n bs (some ⟨g, 0, none⟩) len fc xs w HT5.out.two.win (Nat.le_trans hB HC5.out.size) (own_front HXL.out HO5.out).1 hdig (fun x e => by cases e; exact HGa.out) hlcn (by omega) (by omega)).mono ?_
    rintro z w1 ⟨rfl, v1, hw1, c1, m1⟩
    refine hK.out _ _ ?_
    clear hK
    have HT1 : Hid (Trn Win wA w1 w0.heap.size a r v y v1 y n (bs ++ xs) bs) := HT5.out.left S hw1 c1 m1
    have HB1 : Hid (Bxs w1 P a r 1 wi dist nn ad len cap) := HB5.out.left S HT5.out.two c1
    have HO1 : Hid (w1.ownsRow W.heap.size 5 1 (.slice (some ⟨g, 0, none⟩) (len + 1) fc) (len + 1) (ins .u8 (nums xs) ++ [.int .u8 165])) := ownsRow_keep HO5.out c1 (fun k e => by cases e; exact HGa.out)
    have HG1 : Hid (wA.heap.size ≤ g ∧ g < w1.heap.size) := ⟨HG5.out.1, Nat.lt_of_lt_of_le HG5.out.2 c1.size⟩
    have HGa1 : Hid (¬ Foot a v1 g) := fun f => by
      rcases f with f | f
      · exact HGa.out (.inl f)
      · rcases m1 g f with q | q
        · exact HGa.out (.inr q)
        · have := HG5.out.2
          omega
    have HR1 : Hid (Row8 w1 ad len cap (nums xs)) := Bk.row8_chg HR0.out (HPL.out.chg.trans ((HC5.out.mono (fun _ f => f.elim)).trans (S := Foot a v) c1 (fun z f => .inl f)) (fun z f => .inr (S.lt HT5.out.two.win z f).1))
    clear c1 m1 hw1 HT5 HB5 HO5 HG5 HC5 HGa
    obtain ⟨x0, x1, x2, x3, x4, x5⟩ := HB1.out.cells
    go_wp2_with fail
    refine (rput_any w0.heap.size r y n bs ad len cap xs w1 HT1.out.two.rw (Nat.le_trans hB HT1.out.chg.size) HR1.out hl).mono ?_
    rintro z w2 ⟨rfl, y2, hr2, c2, m2⟩
    have HT2 : Hid (Trn Win wA w2 w0.heap.size a r v y v1 y2 n (bs ++ xs) (bs ++ xs)) := HT1.out.right S hr2 c2 m2
    have HB2 : Hid (Bxs w2 P a r 1 wi dist nn ad len cap) := HB1.out.right HT1.out.two c2
    have HO2 : Hid (w2.ownsRow W.heap.size 5 1 (.slice (some ⟨g, 0, none⟩) (len + 1) fc) (len + 1) (ins .u8 (nums xs) ++ [.int .u8 165])) := ownsRow_keep HO1.out c2 (fun k e => by cases e; exact HGr.out)
    have HG2 : Hid (wA.heap.size ≤ g) := HG1.out.1
    have HGr2 : Hid (¬ Foot r y2 g) := fun f => by
      rcases f with f | f
      · exact HGr.out (.inl f)
      · rcases m2 g f with q | q
        · exact HGr.out (.inr q)
        · have := HG1.out.2
          omega
    have HPL2 : Hid (Pl Win w0 w2 lv (its.set i ⟨a, r, v1, y2, n, bs ++ xs⟩) bv hs) := HT2.out.pl S HPL.out i hi HX.out
    obtain ⟨hrf, hcl, _⟩ := own_front HXL.out HO2.out
    obtain ⟨sX, hsX⟩ : ∃ sX, strOfNums (nums xs) = sX := ⟨_, rfl⟩
    have HV1 : Hid (∀ w, Chg (fun _ => False) w2 w → (convert 22 9 (.slice (some ⟨g, 0, none⟩) len fc)).run Try.prog w = .ok (.string sX) w) := fun w hc => by rw [← hsX]; exact Bk.conv8_here (Bk.row8_chg hrf hc)
    have HV2 : Hid (∀ w, Chg (fun _ => False) w2 w → (convert 22 9 (.slice ad len cap)).run Try.prog w = .ok (.string sX) w) := fun w hc => by rw [← hsX]; exact Bk.conv8_here (Bk.row8_chg HR0.out (chg_then HPL2.out.chg hc))
    have HCL : Hid (w2.cell? ⟨g, len, none⟩ = some (.int .u8 165)) := hcl
    clear c2 m2 hr2 HT1 HB1 HO1 HG1 HGr HR1 hrf hcl hsX x0 x1 x2 x3 x4 x5
    go_wp2_with fail
    refine wp_region_phaseQ (mk := fun u => #[_, _, _, _, _, _, _, _, _, _, _, _, _, _, _, _, _, _, _, _, _, _, _, _, _, _, _, _, _, _, _, _, _, _, _, _, _, _, _, _, _, _, _, u 43, u 44, u 45, u 46, u 47, u 48, u 49, u 50, u 51, u 52, u 53, u 54, u 55, u 56, u 57, u 58, u 59, u 60, u 61, _, _, _, _, _, _, _, _, _, _, _, _, _, _, _, _, _, _, _, _, _, _, _, _, _, _, _, _, _, _, _, _, _, _, _, _, _, _, _, _, _, _, _, _, _, _, _, _, _, _, _, _, _, _, _, _, _, _, _, _, _, _, _, _, _, _, _, _, _, _, _, _, _, _, _, _, _, _, _, _, _, _, _, _, _, _, _, _, _, _, _, _, _, _, _, _, _, _, _, _, _, _, _, _, _, _, _, _, _, _, _, _, _, _, _, _, _, _, _, _, _, _, _, _, _]) (G := lookG [(43, .slice (some ⟨g, 0, none⟩) (len + 1) fc), (44, .pointer (some ⟨P + 1, 4, none⟩)), (45, .slice ad len cap), (46, .int .i64 (len : Int)), (47, .slice (some ⟨g, 0, none⟩) len fc), (48, .string sX), (49, .pointer (some ⟨P + 1, 4, none⟩)), (50, .slice ad len cap), (51, .string sX), (52, .bool true), (53, .bool true), (54, .slice (some ⟨g, 0, none⟩) (len + 1) fc), (55, .pointer (some ⟨P + 1, 4, none⟩)), (56, .slice ad len cap), (57, .int .i64 (len : Int)), (58, .pointer (some ⟨g, len, none⟩)), (59, .int .u8 165), (60, .bool true), (61, .bool true)]) (J := fun _ _ w => Chg (fun _ => False) w2 w) [] (fun i =>  0) ([]) (fun _ => undef) rfl (by kernel_rfl) 19 _ rfl rfl (by kernel_rfl) (by kernel_rfl) (by kernel_rfl) (by decide) ?_ ?_ ?_ (by kernel_rfl) ?_ ?_
    · repeat (refine ⟨fun _ _ => rfl, ?_⟩)
      exact trivial
    · exact fun q u u2 w _ h => h
    · exact (Chg.refl _ _).drew
    · refine ⟨?_, ?_, ?_, ?_, ?_, ?_, ?_, ?_, ?_, ?_, ?_, ?_, ?_, ?_, ?_, ?_, ?_, ?_, ?_, trivial⟩
      · show StepRQ _ _ _ _ _ _ _ _ _ -- 43
        unfold StepRQ
        intro q hq u w hj hd K hK
        clear hd
        go_simp
        exact hK.out (.slice (some ⟨g, 0, none⟩) (len + 1) fc) rfl
      · show StepRQ _ _ _ _ _ _ _ _ _ -- 44
        unfold StepRQ
        intro q hq u w hj hd K hK
        clear hd
        go_simp
        exact hK.out (.pointer (some ⟨P + 1, 4, none⟩)) rfl
      · show StepRQ _ _ _ _ _ _ _ _ _ -- 45
        unfold StepRQ
        intro q hq u w hj hd K hK
        have h44 : u 44 = .pointer (some ⟨P + 1, 4, none⟩) := hd.get 1 (by kernel_rfl)
        clear hd
        simp only [h44] at hK
        have hcell := (HB2.out.new hj).cells.2.2.2.2.2
        go_simp
        exact hK.out _ rfl
      · show StepRQ _ _ _ _ _ _ _ _ _ -- 46
        unfold StepRQ
        intro q hq u w hj hd K hK
        have h45 : u 45 = .slice ad len cap := hd.get 2 (by kernel_rfl)
        clear hd
        simp only [h45] at hK
        go_simp
        exact hK.out (.int .i64 (len : Int)) rfl
      · show StepRQ _ _ _ _ _ _ _ _ _ -- 47
        unfold StepRQ
        intro q hq u w hj hd K hK
        have h43 : u 43 = .slice (some ⟨g, 0, none⟩) (len + 1) fc := hd.get 0 (by kernel_rfl)
        have h46 : u 46 = .int .i64 (len : Int) := hd.get 3 (by kernel_rfl)
        clear hd
        simp only [h43, h46] at hK
        go_simp
        exact hK.out (.slice (some ⟨g, 0, none⟩) len fc) rfl
      · show StepRQ _ _ _ _ _ _ _ _ _ -- 48
        unfold StepRQ
        intro q hq u w hj hd K hK
        have h47 : u 47 = .slice (some ⟨g, 0, none⟩) len fc := hd.get 4 (by kernel_rfl)
        clear hd
        simp only [h47] at hK
        have hcv := HV1.out w hj
        go_simp
        exact hK.out _ rfl
      · show StepRQ _ _ _ _ _ _ _ _ _ -- 49
        unfold StepRQ
        intro q hq u w hj hd K hK
        clear hd
        go_simp
        exact hK.out (.pointer (some ⟨P + 1, 4, none⟩)) rfl
      · show StepRQ _ _ _ _ _ _ _ _ _ -- 50
        unfold StepRQ
        intro q hq u w hj hd K hK
        have h49 : u 49 = .pointer (some ⟨P + 1, 4, none⟩) := hd.get 6 (by kernel_rfl)
        clear hd
        simp only [h49] at hK
        have hcell := (HB2.out.new hj).cells.2.2.2.2.2
        go_simp
        exact hK.out _ rfl
      · show StepRQ _ _ _ _ _ _ _ _ _ -- 51
        unfold StepRQ
        intro q hq u w hj hd K hK
        have h50 : u 50 = .slice ad len cap := hd.get 7 (by kernel_rfl)
        clear hd
        simp only [h50] at hK
        have hcv := HV2.out w hj
        go_simp
        exact hK.out _ rfl
      · show StepRQ _ _ _ _ _ _ _ _ _ -- 52
        unfold StepRQ
        intro q hq u w hj hd K hK
        have h48 : u 48 = .string sX := hd.get 5 (by kernel_rfl)
        have h51 : u 51 = .string sX := hd.get 8 (by kernel_rfl)
        clear hd
        simp only [h48, h51] at hK
        go_simp
        exact hK.out (.bool true) rfl
      · show StepRQ _ _ _ _ _ _ _ _ _ -- 53
        unfold StepRQ
        intro q hq u w hj hd K hK
        have h52 : u 52 = .bool true := hd.get 9 (by kernel_rfl)
        clear hd
        simp only [h52] at hK
        go_simp
        exact hK.out (.bool true) rfl
      · show StepRQ _ _ _ _ _ _ _ _ _ -- 54
        unfold StepRQ
        intro q hq u w hj hd K hK
        have h53 : u 53 = .bool true := hd.get 10 (by kernel_rfl)
        clear hd
        simp only [h53] at hK
        go_simp
        exact hK.out (.slice (some ⟨g, 0, none⟩) (len + 1) fc) rfl
      · show StepRQ _ _ _ _ _ _ _ _ _ -- 55
        unfold StepRQ
        intro q hq u w hj hd K hK
        have h53 : u 53 = .bool true := hd.get 10 (by kernel_rfl)
        clear hd
        simp only [h53] at hK
        go_simp
        exact hK.out (.pointer (some ⟨P + 1, 4, none⟩)) rfl
      · show StepRQ _ _ _ _ _ _ _ _ _ -- 56
        unfold StepRQ
        intro q hq u w hj hd K hK
        have h55 : u 55 = .pointer (some ⟨P + 1, 4, none⟩) := hd.get 12 (by kernel_rfl)
        have h53 : u 53 = .bool true := hd.get 10 (by kernel_rfl)
        clear hd
        simp only [h55, h53] at hK
        have hcell := (HB2.out.new hj).cells.2.2.2.2.2
        go_simp
        exact hK.out _ rfl
      · show StepRQ _ _ _ _ _ _ _ _ _ -- 57
        unfold StepRQ
        intro q hq u w hj hd K hK
        have h56 : u 56 = .slice ad len cap := hd.get 13 (by kernel_rfl)
        have h53 : u 53 = .bool true := hd.get 10 (by kernel_rfl)
        clear hd
        simp only [h56, h53] at hK
        go_simp
        exact hK.out (.int .i64 (len : Int)) rfl
      · show StepRQ _ _ _ _ _ _ _ _ _ -- 58
        unfold StepRQ
        intro q hq u w hj hd K hK
        have h54 : u 54 = .slice (some ⟨g, 0, none⟩) (len + 1) fc := hd.get 11 (by kernel_rfl)
        have h57 : u 57 = .int .i64 (len : Int) := hd.get 14 (by kernel_rfl)
        have h53 : u 53 = .bool true := hd.get 10 (by kernel_rfl)
        clear hd
        simp only [h54, h57, h53] at hK
        have hlt9 : (len : Int) < (len : Int) + 1 := by omega
        go_simp
        exact hK.out _ rfl
      · show StepRQ _ _ _ _ _ _ _ _ _ -- 59
        unfold StepRQ
        intro q hq u w hj hd K hK
        have h58 : u 58 = .pointer (some ⟨g, len, none⟩) := hd.get 15 (by kernel_rfl)
        have h53 : u 53 = .bool true := hd.get 10 (by kernel_rfl)
        clear hd
        simp only [h58, h53] at hK
        have hcell := cell_chg HCL.out hj
        go_simp
        exact hK.out _ rfl
      · show StepRQ _ _ _ _ _ _ _ _ _ -- 60
        unfold StepRQ
        intro q hq u w hj hd K hK
        have h59 : u 59 = .int .u8 165 := hd.get 16 (by kernel_rfl)
        have h53 : u 53 = .bool true := hd.get 10 (by kernel_rfl)
        clear hd
        simp only [h59, h53] at hK
        go_simp
        exact hK.out (.bool true) rfl
      · show StepRQ _ _ _ _ _ _ _ _ _ -- 61
        unfold StepRQ
        intro q hq u w hj hd K hK
        have h53 : u 53 = .bool true := hd.get 10 (by kernel_rfl)
        have h60 : u 60 = .bool true := hd.get 17 (by kernel_rfl)
        clear hd
        simp only [h53, h60] at hK
        go_simp
        exact hK.out (.bool true) rfl
    · intro u w hj hA K hK
      have e61 : u 61 = .bool true := hA.at 61 (by kernel_rfl)
      clear hA
      have HT7 : Hid (Trn Win wA w w0.heap.size a r v y v1 y2 n (bs ++ xs) (bs ++ xs)) := HT2.out.new S hj
      have HO7 : Hid (w.ownsRow W.heap.size 5 1 (.slice (some ⟨g, 0, none⟩) (len + 1) fc) (len + 1) (Bk.cells8 (nums xs ++ [165]))) := by
        have h9 := ownsRow_keep HO2.out hj (fun _ _ f => f)
        show w.ownsRow W.heap.size 5 1 (.slice (some ⟨g, 0, none⟩) (len + 1) fc) (len + 1) (Bk.cells8 (nums xs ++ [165]))
        simpa [Bk.cells8, ins] using h9
      clear hj HT2 HO2 HV1 HV2 HCL HB2 HPL2
      go_simp
      refine hK.out _ _ ?_
      clear hK
      go_wp2_with fail
      go_loopw [64] (fun iv wr => ∃ (k : Nat) (zs : List Int), k ≤ len + 1 ∧ iv = .int .i64 (k : Int) ∧ Hid (zs.length = len + 1) ∧ Hid (wr.ownsRow W.heap.size 5 1 (.slice (some ⟨g, 0, none⟩) (len + 1) fc) (len + 1) (Bk.cells8 zs)) ∧ Hid (Chg (fun z => z = g) w wr)) (fun iv _ => len + 1 - (intOf iv).toNat)
      case atStart => exact ⟨0, nums xs ++ [165], Nat.zero_le _, rfl, by show _ = _; rw [List.length_append, nums_len, HXL.out]; rfl, HO7.out, Chg.refl _ _⟩
      case round =>
        clear HO7
        obtain ⟨k, zs, hk, rfl, HZL, HO, HCW⟩ := hrel
        by_cases hlt : k < len + 1
        · have hdk : decide ((k : Int) < (len : Int) + 1) = true := by simp; omega
          have ho := HO.out
          have hkl : k < zs.length := by rw [HZL.out]; exact hlt
          obtain ⟨q, ck⟩ : ∃ q, wr.cell? ⟨g, k, none⟩ = some (.int .u8 q) := by
            rw [ho.cellAt k (by omega)]
            exact ⟨zs[k], by simp [Bk.cells8, hkl]⟩
          have fk := ho.frozenAt k
          have HR : Hid (∀ p : Int, (wr.setCell ⟨g, k, none⟩ (.int .u8 p)).ownsRow W.heap.size 5 1 (.slice (some ⟨g, 0, none⟩) (len + 1) fc) (len + 1) (Bk.cells8 (zs.set k p))) := fun p => by
            have := (ho.stored k (.int .u8 p)).1
            simpa [Bk.cells8, List.map_set] using this
          have HS : Hid (∀ p : Int, Chg (fun z => z = g) w (wr.setCell ⟨g, k, none⟩ (.int .u8 p))) := fun p => HCW.out.setCell (p := ⟨g, k, none⟩) (.inl rfl) (.int .u8 p)
          clear ho hkl HO HCW
          go_wp2
          go_roundw
          case rel => exact ⟨k + 1, zs.set k _, by omega, by go_num, by show _ = _; rw [List.length_set]; exact HZL.out, HR.out _, HS.out _⟩
          case measure => simp [intOf]; omega
        · have hdk : decide ((k : Int) < (len : Int) + 1) = false := by simp; omega
          go_wp2
          go_ret2
          have hT := HT7.out.aside S HCW.out (fun z e => by rw [e]; exact HGa1.out) (fun z e => by rw [e]; exact HGr2.out) (fun z e => by rw [e]; exact HG2.out)
          exact ⟨rfl, v1, y2, hT.pl S HPL.out i hi HX.out⟩
end Go.Proofs.Ythgibmhbgfjkcaa
