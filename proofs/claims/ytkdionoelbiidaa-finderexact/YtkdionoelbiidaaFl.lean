/- FinderExact, above what is asked of the program's finders; of no statement by itself. -/
import Derived.Test.YtkdionoelbiidaaFk
namespace Go.Proofs.Ytkdionoelbiidaa
open Go.RowKit
set_option linter.unusedVariables false
variable {Γ : Type} {le : Γ → Γ → Prop} {foot : Γ → Nat → Prop} {mp : Γ → Nat} {Fin : Γ → World → Nat → Nat → List Nat → Nat → Nat → Prop} {Sq : World → Value → (Nat → Prop) → Nat → Int → Prop}

/-- Skips under way. -/
def SkJ (Fin : Γ → World → Nat → Nat → List Nat → Nat → Nat → Prop) (foot : Γ → Nat → Prop) (w0 W5 : World) (γ : Γ) (a r : Nat) (ad : Option Addr) (L c : Nat) (d : List Nat) (n p k : Nat) : Nat → World → Prop
  | 0, w => Chg (fun _ => False) W5 w
  | 1, w => ∃ γ', One Fin w0 w γ' a d n (p + k) ∧ Rf w r ad L c d n p ∧ ∀ z, foot γ' z → z ≠ r
  | 2, w => ∃ γ', One Fin w0 w γ' a d n (p + k) ∧ Rf w r ad L c d n p ∧ ∀ z, foot γ' z → z ≠ r
  | _, w => ∃ γ', Ex Fin foot w0 w γ' a r ad L c d n (p + k)
/-- Matches under way. -/
def MtJ (W5 : World) (ms : List (Nat × Nat)) (Lm : Nat) : Nat → Value → Value → Value → World → Prop
  | 0, _, _, _, w => Chg (fun _ => False) W5 w
  | 1, x, _, _, w => Chg (fun _ => False) W5 w ∧ ∃ a1 d1, x = .slice a1 Lm d1 ∧ MRow w a1 ms
  | 2, x, y, _, w => Chg (fun _ => False) W5 w ∧ ∃ a1 d1 a2 d2, x = .slice a1 Lm d1 ∧ y = .slice a2 Lm d2 ∧ MRow w a1 ms ∧ MRow w a2 ms
  | 3, _, _, _, w => Chg (fun _ => False) W5 w
  | 4, _, _, _, w => Chg (fun _ => False) W5 w
  | 5, _, _, _, w => Chg (fun _ => False) W5 w
  | 6, _, _, z, w => Chg (fun _ => False) W5 w ∧ ∃ a1 d1, z = .slice a1 Lm d1 ∧ MRow w a1 ms ∧ ∀ g, a1 = some ⟨g, 0, none⟩ → g < w.heap.size
  | _, _, _, _, w => Chg (fun _ => False) W5 w
theorem set_cells {w : World} {g i : Nat} {cs : Array Value} {t : TypeId} (u : Value) (h : w.heap[g]? = some (.cells cs t (0, 0))) : (w.setCell ⟨g, i, none⟩ u).heap[g]? = some (.cells (cs.setIfInBounds i u) t (0, 0)) := by
  have hlt := lt_of_blk h
  have h' : w.heap[g] = .cells cs t (0, 0) := by simpa [Array.getElem?_eq_getElem hlt] using h
  show (w.heap.modify g _)[g]? = _
  rw [Array.getElem?_eq_getElem (by simpa using hlt), Array.getElem_modify_self, h']
  rfl
set_option maxHeartbeats 16000000 in
set_option maxRecDepth 100000 in
theorem exact_in (S : FinSpec le foot mp Fin Sq) (ad : Option Addr) (L c : Nat) (d : List Nat) (n : Nat) (sa : Option Addr) (Z sc : Nat) (script : List (Int × Int × Int)) (w0 : World) (hr : Row8 w0 ad L c (nums d)) (hdig : Rc.Dig d) (hL : L ≤ 140737488351232) (hn1 : 1 ≤ n) (hn2 : n ≤ 4294967295) (hst : StL w0 sa script) (hZ : script.length = Z) (hZ9 : Z ≤ 9223372036854775807) : Calls Try.prog 7 #[.slice ad L c, .int .i64 (n : Int), .slice sa Z sc] w0 fun e w' => e = .returned (.bool true) ∧ Chg (fun _ => False) w0 w' := by
  obtain ⟨iu, hiu, hu0, hu1, hu2⟩ := info_parts infoU8
  have HR : Hid (Row8 w0 ad L c (nums d)) := hr
  have hdl : d.length = L := by have := hr.1; rw [nums_len] at this; exact this
  have HDL : Hid (d.length = L) := hdl
  have hne := pF_ne
  have hnl := pF_nil
  have hrne := pR_ne
  have hrnl := pR_nil
  have hfn := func_nil
  have HS0 : Hid (StL w0 sa script) := hst
  have HZ : Hid (script.length = Z) := hZ
  have hLi : (L : Int) ≤ 140737488351232 := by omega
  clear hr hdl hst hZ
  have cE := chg_one w0 (.cells #[] 5)
  have hoE := own_empty w0 5
  have hsrc := (Bk.row8_chg HR.out cE).src
  have hone := one8n d
  have hszE : w0.heap.size ≤ (w0.alloc (.cells #[] 5)).heap.size := cE.size
  have HCE : Hid (Chg (fun _ => False) w0 (w0.alloc (.cells #[] 5))) := cE
  clear cE
  go_enter Try.func7, Try.ntmps7
  go_wp2_with (at_builtin; refine wpList_append_moved rfl _ _ 22 rfl w0.heap.size 5 iu (.int .u8 0) 1 1 Try.underlying22 hiu hu0 hu1 hu2 rfl (by decide) _ 0 [] rfl ad L c rfl ((nums d).map (Value.int .u8)) hoE hsrc hone (by unfold maxLen; omega) (by omega) hszE ?_)
  intro vq wq hoq hgq _
  have cq : Chg (fun _ => False) w0 wq := HCE.out.grown hgq (fun k e => .inr (by cases e; exact Nat.le_refl _))
  have hoq' : wq.ownsRow w0.heap.size 5 1 vq L (ins .u8 (nums d)) := by simpa [ins_map] using hoq
  obtain ⟨aq, dq, hvq⟩ := form1 hoq'
  subst hvq
  have cB := chg_one wq (.cells #[.int .u8 49] 5)
  have hsr2 : From (wq.alloc (.cells #[.int .u8 49] 5)) (some ⟨wq.heap.size, 0, none⟩) 1 1 1 [.int .u8 49] := (Bk.row8_one wq 49 5).src
  have ho3 := ownsRow_keep hoq' cB (fun _ _ f => f)
  have hs3 : w0.heap.size ≤ (wq.alloc (.cells #[.int .u8 49] 5)).heap.size := Nat.le_trans cq.size cB.size
  have HCq : Hid (Chg (fun _ => False) w0 (wq.alloc (.cells #[.int .u8 49] 5))) := chg_then cq cB
  clear hoq hgq cq hoq' hoE hsrc hone hszE HCE cB
  go_wp2_with (at_builtin; refine wpList_append_moved rfl _ _ 22 rfl w0.heap.size 5 iu (.int .u8 0) 1 1 Try.underlying22 hiu hu0 hu1 hu2 rfl (by decide) _ L (ins .u8 (nums d)) rfl (some ⟨wq.heap.size, 0, none⟩) 1 1 rfl [.int .u8 49] ho3 hsr2 (fun u hu => by simp at hu; subst hu; rfl) (by unfold maxLen; omega) (by omega) hs3 ?_)
  intro vf wf ho4 hg4 _
  have cf : Chg (fun _ => False) w0 wf := HCq.out.grown hg4 (fun k e => .inr (ho3.lt k e).1)
  obtain ⟨g, fc, rfl⟩ := ownsRow_succ1 ho4
  obtain ⟨hr4, hx4, hfc⟩ := own_one8 HDL.out ho4
  have hlt4 := ho4.lt g rfl
  have hfci : (L : Int) ≤ (fc : Int) := by omega
  have hfcn : L ≤ fc := by omega
  have HOW : Hid (wf.ownsRow w0.heap.size 5 1 (.slice (some ⟨g, 0, none⟩) (L + 1) fc) (L + 1) (ins .u8 (nums d) ++ [.int .u8 49])) := ho4
  have HCf : Hid (Chg (fun _ => False) w0 wf) := cf
  have HGf : Hid (w0.heap.size ≤ g ∧ g < wf.heap.size) := hlt4
  clear ho3 hsr2 hs3 ho4 hg4 HCq cf hlt4
  have HN : Hid _ := S.newIn (some ⟨g, 0, none⟩) L fc d n wf hr4 hdig hfcn (by omega) hn1 hn2
  go_wp2_with fail
  refine Calls.mono HN.out ?_
  rintro z w1 ⟨γ0, a, rfl, hf1, c1⟩
  have HO1 : Hid (One Fin w0 w1 γ0 a d n 0) := ⟨S.down hf1 HCf.out.size, chg_then HCf.out c1⟩
  have HG1 : Hid (∀ z, foot γ0 z → g < z) := fun z f => by have e1 := (S.lt hf1 z f).1; have e2 := HGf.out.2; omega
  have hr1 := Bk.row8_chg hr4 c1
  have hx1 := cell_chg hx4 c1
  have HOW1 : Hid (w1.ownsRow w0.heap.size 5 1 (.slice (some ⟨g, 0, none⟩) (L + 1) fc) (L + 1) (ins .u8 (nums d) ++ [.int .u8 49])) := ownsRow_keep HOW.out c1 (fun _ _ f => f)
  have HG2 : Hid (w0.heap.size ≤ g ∧ g < w1.heap.size) := ⟨HGf.out.1, Nat.lt_of_lt_of_le HGf.out.2 c1.size⟩
  clear HN c1 HOW HCf hr4 hx4 hf1 HGf
  go_wp2_with fail
  refine (rfnew_in ad L c d n w1 (Bk.row8_chg HR.out HO1.out.chg) hL hn1 hn2).mono ?_
  rintro z w2 ⟨r, rfl, hrf, hrb, c2⟩
  have HX2 : Hid (Ex Fin foot w0 w2 γ0 a r ad L c d n 0) := ⟨HO1.out.new S c2, hrf, fun z f => by have := (S.lt HO1.out.fin z f).2; omega, by have := HO1.out.chg.size; omega⟩
  have HGR : Hid (g ≠ r) := by have := HG2.out.2; show _ ≠ _; omega
  have hr2 := Bk.row8_chg hr1 c2
  have hx2 := cell_chg hx1 c2
  have HOW2 : Hid (w2.ownsRow w0.heap.size 5 1 (.slice (some ⟨g, 0, none⟩) (L + 1) fc) (L + 1) (ins .u8 (nums d) ++ [.int .u8 49])) := ownsRow_keep HOW1.out c2 (fun _ _ f => f)
  have cv1 : ∀ k, (convert 22 9 (.slice (some ⟨g, 0, none⟩) L fc)).run Try.prog (w2.drewN k) = .ok (.string (strOfNums (nums d))) (w2.drewN k) := fun k => Bk.conv8_here (Bk.row8_chg hr2 (chg_drewN _ _))
  have cv2 : ∀ k, (convert 22 9 (.slice ad L c)).run Try.prog (w2.drewN k) = .ok (.string (strOfNums (nums d))) (w2.drewN k) := fun k => Bk.conv8_here (Bk.row8_chg HR.out (chg_then HX2.out.one.chg (chg_drewN _ _)))
  have HNUM : Hid (∀ q x, Calls Try.prog 9 #[.int .i64 x] (w2.drewN q) fun e w'' => e = .returned (.int .i64 x) ∧ ∃ m, w'' = w2.drewN m) := fun q x => (num_any x (w2.drewN q)).mono fun e w' ⟨h1, h2⟩ => ⟨h1, q, h2.symm⟩
  clear HO1 HOW1 hr1 hx1 hrf hrb c2
  go_wp2_with fail
  go_quiet (first | (go_at_call 9; exact HNUM.out _ _))
  have HX3 : Hid (Ex Fin foot w0 (w2.drewN nq) γ0 a r ad L c d n 0) := HX2.out.new S (chg_drewN _ _)
  have HOW3 : Hid ((w2.drewN nq).ownsRow w0.heap.size 5 1 (.slice (some ⟨g, 0, none⟩) (L + 1) fc) (L + 1) (ins .u8 (nums d) ++ [.int .u8 49])) := ownsRow_keep HOW2.out (chg_drewN _ _) (fun _ _ f => f)
  clear HX2 HOW2 hr2 hx2 cv1 cv2 HNUM
  generalize w2.drewN nq = w3 at *
  go_wp2_with fail
  refine (S.mats γ0 w0.heap.size a d n 0 2 w3 HX3.out.one.fin (by unfold I64; omega)).mono ?_
  rintro z w4 ⟨v4, sf4, rfl, hsq4, c4, _⟩
  obtain ⟨gf4, lb4, hv4, _, _⟩ := S.iter hsq4
  subst hv4
  have HX4 : Hid (Ex Fin foot w0 w4 γ0 a r ad L c d n 0) := HX3.out.new S c4
  have HC4 : Hid (∃ cs, w4.heap[g]? = some (.cells cs 5 (0, 0)) ∧ L + 1 ≤ cs.size) := by
    have ho := ownsRow_keep HOW3.out c4 (fun _ _ f => f)
    rcases ho.2 with ⟨e0, _⟩ | ⟨g', cap, cur, e0, _, hg, hcap, _, hsz, _⟩
    · simp at e0
    · simp only [Value.slice.injEq, Option.some.injEq, Addr.mk.injEq, true_and, and_true] at e0
      obtain ⟨rfl, rfl⟩ := e0
      exact ⟨cur, hg, by omega⟩
  clear hsq4 c4 HX3 HOW3
  go_wp2_with fail
  go_loopw [72] (fun v wr => ∃ i : Nat, i ≤ L + 1 ∧ v = .int .i64 (i : Int) ∧ Hid (Ex Fin foot w0 wr γ0 a r ad L c d n 0) ∧ Hid (∃ cs, wr.heap[g]? = some (.cells cs 5 (0, 0)) ∧ L + 1 ≤ cs.size)) (fun v _ => L + 1 - (intOf v).toNat)
  case atStart => exact ⟨0, Nat.zero_le _, rfl, HX4.out, HC4.out⟩
  case round =>
    clear HX4 HC4
    obtain ⟨i, hi, rfl, HX, HC⟩ := hrel
    have hii : (i : Int) ≤ 140737488355328 := by omega
    by_cases hil : i < L + 1
    · have hd1 : decide (i < L + 1) = true := decide_eq_true hil
      have hd1' : decide ((i : Int) < (L : Int) + 1) = true := by simp; omega
      obtain ⟨cs, hcs, hcl⟩ := HC.out
      have kc : wr.cell? ⟨g, i, none⟩ = some (cs[i]'(by omega)) := by simp [World.cell?, hcs]
      have kf : wr.frozen? ⟨g, i, none⟩ = false := by simp [World.frozen?, hcs]
      have cS : Chg (fun z => z = g) wr (wr.setCell ⟨g, i, none⟩ (.int .u8 50)) := (Chg.refl (fun z => z = g) wr).setCell (p := ⟨g, i, none⟩) (.inl rfl) _
      have HX2 : Hid (Ex Fin foot w0 (wr.setCell ⟨g, i, none⟩ (.int .u8 50)) γ0 a r ad L c d n 0) := by
        have hch : Chg (fun _ => False) w0 (wr.setCell ⟨g, i, none⟩ (.int .u8 50)) := HX.out.one.chg.trans cS (fun z e => .inr (by have := HG2.out.1; omega))
        exact ⟨⟨S.keep HX.out.one.fin cS (fun z f e => by have := HG1.out z f; omega), hch⟩, ⟨blk_keep HX.out.rf.blk cS (fun e => HGR.out e.symm), Bk.row8_chg HR.out hch, HX.out.rf.p1, HX.out.rf.l1, HX.out.rf.n1, HX.out.rf.n2⟩, HX.out.ap, HX.out.r0⟩
      have HC2 : Hid (∃ cs, (wr.setCell ⟨g, i, none⟩ (.int .u8 50)).heap[g]? = some (.cells cs 5 (0, 0)) ∧ L + 1 ≤ cs.size) := ⟨_, set_cells _ hcs, by rw [Array.size_setIfInBounds]; exact hcl⟩
      generalize cs[i]'(by omega) = old at kc
      clear HX HC cS hcs hcl
      go_wp2_with fail
      go_roundw
      case rel => exact ⟨i + 1, by omega, by go_num, HX2.out, HC2.out⟩
      case measure => simp [intOf]; omega
    · have hd1 : decide (i < L + 1) = false := decide_eq_false hil
      have hd1' : decide ((i : Int) < (L : Int) + 1) = false := by simp; omega
      clear HC HG1 HGR HG2
      generalize wr = W4 at *
      go_wp2_with fail
      go_loopw [81] (fun v wr => ∃ (i p : Nat) (γ : Γ), i ≤ Z ∧ v = .int .i64 (i : Int) ∧ Hid (Ex Fin foot w0 wr γ a r ad L c d n p)) (fun v _ => Z - (intOf v).toNat)
      case atStart => exact ⟨0, 0, γ0, Nat.zero_le _, rfl, HX.out⟩
      case round =>
        clear HX hil hd1 hd1'
        obtain ⟨i, p, γ, hi, rfl, HX⟩ := hrel
        by_cases hil : i < Z
        · have hd1 : decide (i < Z) = true := decide_eq_true hil
          obtain ⟨s, hs⟩ : ∃ s, script[i]? = some s := ⟨_, List.getElem?_eq_getElem (by rw [HZ.out]; exact hil)⟩
          obtain ⟨⟨hki, hNi, hSi⟩, bs, off, hsa, s0, s1, s2⟩ := (HS0.out.new HX.out.one.chg) i s hs
          obtain ⟨kd, N, Sp⟩ := s
          simp only at hki hNi hSi s0 s1 s2
          subst hsa
          have cA := chg_one wr (.cells #[.int .i64 kd, .int .i64 N, .int .i64 Sp] 50)
          have HX5 : Hid (Ex Fin foot w0 (wr.alloc (.cells #[.int .i64 kd, .int .i64 N, .int .i64 Sp] 50)) γ a r ad L c d n p) := HX.out.new S cA
          have HBX : Hid ((wr.alloc (.cells #[.int .i64 kd, .int .i64 N, .int .i64 Sp] 50)).heap[wr.heap.size]? = some (.cells #[.int .i64 kd, .int .i64 N, .int .i64 Sp] 50 (0, 0))) := heap_alloc_last _ _
          have HAB : Hid (∀ z, foot γ z → z < wr.heap.size) := fun z f => (S.lt HX.out.one.fin z f).2
          have HBR : Hid (wr.heap.size ≠ r) := by have := lt_of_blk HX.out.rf.blk; show _ ≠ _; omega
          clear cA HX hs
          have hpL : p ≤ L := HX5.out.rf.p1
          by_cases hk0 : kd = 0
          · have hb0 : (kd == 0) = true := by simp [hk0]
            clear hk0
            by_cases hin : 0 ≤ N ∧ N ≤ ((L - p : Nat) : Int)
            · obtain ⟨kn, rfl⟩ : ∃ kn : Nat, (kn : Int) = N := ⟨N.toNat, by omega⟩
              have hkn : p + kn ≤ L := by omega
              clear hin
              go_wp2_with fail
              generalize wr.heap.size = b at *
              generalize wr.alloc (.cells #[.int .i64 kd, .int .i64 (kn : Int), .int .i64 Sp] 50) = W5 at *
              clear s0 s1 s2
              refine wp_region_phase (mk := fun u => #[_, _, _, _, _, _, _, _, _, _, _, _, _, _, _, _, _, _, _, _, _, _, _, _, _, _, _, _, _, _, _, _, _, _, _, _, _, _, _, _, _, _, _, _, _, _, _, _, _, _, _, _, _, _, _, _, _, _, _, _, _, _, _, _, _, _, _, _, _, _, _, _, _, _, _, _, _, _, _, _, _, _, _, _, _, _, _, _, _, _, _, _, _, _, _, _, _, _, _, _, _, _, _, _, _, _, _, _, _, u 109, u 110, u 111, u 112, u 113, u 114, u 115, u 116, u 117, _, _, _, _, _, _, _, _, _, _, _, _, _, _, _, _, _, _, _, _, _]) (G := lookG [(109, .pointer (some ⟨a, 0, none⟩)), (110, .pointer (some ⟨b, 1, none⟩)), (111, .int .i64 (kn : Int)), (112, .int .i64 0), (113, .int .i64 0), (114, .pointer (some ⟨r, 0, none⟩)), (115, .pointer (some ⟨b, 1, none⟩)), (116, .int .i64 (kn : Int)), (117, .int .i64 0)]) (J := fun q _ ww => ww.heap[b]? = some (.cells #[.int .i64 kd, .int .i64 (kn : Int), .int .i64 Sp] 50 (0, 0)) ∧ SkJ Fin foot w0 W5 γ a r ad L c d n p kn q ww) [3, 4, 8] (fun t => match t with | 109 => u109 | 110 => u110 | 111 => u111 | 112 => u112 | 113 => u113 | 114 => u114 | 115 => u115 | 116 => u116 | 117 => u117 | _ => undef) rfl (by kernel_rfl) 9 _ rfl rfl (by kernel_rfl) (by kernel_rfl) (by kernel_rfl) (by decide) ?_ ?_ ?_ ?_ ?_
              · repeat (refine ⟨⟨_, rfl, fun _ _ => rfl⟩, ?_⟩)
                exact trivial
              · exact fun q u u2 ww _ h => h
              · exact ⟨blk_keep HBX.out (Chg.refl (fun _ => False) W5).drew (fun f => f), (Chg.refl _ W5).drew⟩
              · refine ⟨?_, ?_, ?_, ?_, ?_, ?_, ?_, ?_, ?_, trivial⟩
                · show StepR _ _ _ _ _ _  _ -- 109
                  unfold StepR
                  intro q u w_ hj hd K hK
                  clear hd
                  go_simp
                  exact hK.out (.pointer (some ⟨a, 0, none⟩)) rfl
                · show StepR _ _ _ _ _ _  _ -- 110
                  unfold StepR
                  intro q u w_ hj hd K hK
                  clear hd
                  go_simp
                  exact hK.out (.pointer (some ⟨b, 1, none⟩)) rfl
                · show StepR _ _ _ _ _ _  _ -- 111
                  unfold StepR
                  intro q u w_ hj hd K hK
                  have h110 : u 110 = .pointer (some ⟨b, 1, none⟩) := hd.get 1 (by kernel_rfl)
                  clear hd
                  simp only [h110] at hK
                  obtain ⟨_, hcN, _⟩ := cellsN3 hj.1
                  go_simp
                  exact hK.out _ rfl
                · show StepW _ _ _ _ _ _ 0 _ -- 112
                  unfold StepW
                  intro u w_ hj hd K hK
                  have h109 : u 109 = .pointer (some ⟨a, 0, none⟩) := hd.get 0 (by kernel_rfl)
                  have h111 : u 111 = .int .i64 (kn : Int) := hd.get 2 (by kernel_rfl)
                  clear hd
                  simp only [h109, h111] at hK
                  obtain ⟨hb, hc⟩ := hj
                  have hc : Chg (fun _ => False) W5 w_ := hc
                  go_simp
                  go_at_call 13
                  have h5 := HX5.out.new S hc
                  refine (S.skipIn γ w0.heap.size a d n p kn w_ h5.one.fin h5.one.chg.size (by have := HDL.out; omega)).mono ?_
                  rintro z w2 ⟨rfl, γ', hf, hn⟩
                  exact hK.out _ w2 ⟨blk_keep hb hf.chg (fun f => by have := HAB.out b f; omega), γ', h5.one.go S hf hn, ⟨blk_keep h5.rf.blk hf.chg (fun f => h5.ap r f rfl), Bk.row8_chg HR.out (h5.one.go S hf hn).chg, h5.rf.p1, h5.rf.l1, h5.rf.n1, h5.rf.n2⟩, fun z f => by
                    rcases hf.grow z f with e | e
                    · exact h5.ap z e
                    · have := lt_of_blk h5.rf.blk; omega⟩ rfl
                · show StepW _ _ _ _ _ _ 1 _ -- 113
                  unfold StepW
                  intro u w_ hj hd K hK
                  have h112 : u 112 = .int .i64 0 := hd.get 3 (by kernel_rfl)
                  clear hd
                  simp only [h112] at hK
                  go_simp
                  go_at_call 9
                  refine (num_any _ _).mono ?_
                  rintro z w2 ⟨rfl, rfl⟩
                  exact hK.out _ w_ hj rfl
                · show StepR _ _ _ _ _ _  _ -- 114
                  unfold StepR
                  intro q u w_ hj hd K hK
                  clear hd
                  go_simp
                  exact hK.out (.pointer (some ⟨r, 0, none⟩)) rfl
                · show StepR _ _ _ _ _ _  _ -- 115
                  unfold StepR
                  intro q u w_ hj hd K hK
                  clear hd
                  go_simp
                  exact hK.out (.pointer (some ⟨b, 1, none⟩)) rfl
                · show StepR _ _ _ _ _ _  _ -- 116
                  unfold StepR
                  intro q u w_ hj hd K hK
                  have h115 : u 115 = .pointer (some ⟨b, 1, none⟩) := hd.get 6 (by kernel_rfl)
                  clear hd
                  simp only [h115] at hK
                  obtain ⟨_, hcN, _⟩ := cellsN3 hj.1
                  go_simp
                  exact hK.out _ rfl
                · show StepW _ _ _ _ _ _ 2 _ -- 117
                  unfold StepW
                  intro u w_ hj hd K hK
                  have h114 : u 114 = .pointer (some ⟨r, 0, none⟩) := hd.get 5 (by kernel_rfl)
                  have h116 : u 116 = .int .i64 (kn : Int) := hd.get 7 (by kernel_rfl)
                  clear hd
                  simp only [h114, h116] at hK
                  obtain ⟨hb, γ', h1, h2, h3⟩ := hj
                  go_simp
                  go_at_call 19
                  refine (rfskip_in r ad L c d n p kn w_ h2 (by omega) (fun w' hc => Bk.row8_chg HR.out (h1.chg.trans hc (fun z e => .inr (by have := HX5.out.r0; omega))))).mono ?_
                  rintro z w2 ⟨rfl, h4, c2⟩
                  exact hK.out _ w2 ⟨blk_keep hb c2 (fun e => HBR.out e), γ', ⟨⟨S.keep h1.fin c2 (fun z f e => h3 z f e), h1.chg.trans c2 (fun z e => .inr (by have := HX5.out.r0; omega))⟩, h4, h3, HX5.out.r0⟩⟩ rfl
              · intro u W7 hj hA K hK
                obtain ⟨_, γ', hex⟩ := hj
                have HY : Hid (Ex Fin foot w0 W7 γ' a r ad L c d n (p + kn)) := hex
                have e113 : u 113 = .int .i64 0 := hA.at 113 (by kernel_rfl)
                have e117 : u 117 = .int .i64 0 := hA.at 117 (by kernel_rfl)
                clear hA hex HX5 HBX HAB HBR
                go_simp
                refine hK.out _ _ ?_
                clear hK K
                go_wp2_with fail
                refine wp_region_phase (mk := fun u => #[_, _, _, _, _, _, _, _, _, _, _, _, _, _, _, _, _, _, _, _, _, _, _, _, _, _, _, _, _, _, _, _, _, _, _, _, _, _, _, _, _, _, _, _, _, _, _, _, _, _, _, _, _, _, _, _, _, _, _, _, _, _, _, _, _, _, _, _, _, _, _, _, _, _, _, _, _, _, _, _, _, _, _, _, _, _, _, _, _, _, _, _, _, _, _, _, _, _, _, _, _, _, _, _, _, _, _, _, _, _, _, _, _, _, _, _, _, _, _, _, _, _, _, _, _, _, _, _, _, _, u 130, u 131, u 132, u 133, u 134, u 135, _, _, _]) (G := lookG [(130, .pointer (some ⟨a, 0, none⟩)), (131, .int .i64 ((p + kn : Nat) : Int)), (132, .pointer (some ⟨r, 0, none⟩)), (133, .pointer (some ⟨r, 0, none⟩)), (134, .pointer (some ⟨r, 2, none⟩)), (135, .int .i64 ((p + kn : Nat) : Int))]) (J := fun _ _ ww => Chg (fun _ => False) W7 ww) [1] (fun t => match t with | 130 => u130 | 131 => u131 | 132 => u132 | 133 => u133 | 134 => u134 | 135 => u135 | _ => undef) rfl (by kernel_rfl) 6 _ rfl rfl (by kernel_rfl) (by kernel_rfl) (by kernel_rfl) (by decide) ?_ ?_ ?_ ?_ ?_
                · repeat (refine ⟨⟨_, rfl, fun _ _ => rfl⟩, ?_⟩)
                  exact trivial
                · exact fun q u u2 ww _ h => h
                · exact (Chg.refl _ W7).drew
                · refine ⟨?_, ?_, ?_, ?_, ?_, ?_, trivial⟩
                  · show StepR _ _ _ _ _ _  _ -- 130
                    unfold StepR
                    intro q u w_ hj hd K hK
                    clear hd
                    go_simp
                    exact hK.out (.pointer (some ⟨a, 0, none⟩)) rfl
                  · show StepW _ _ _ _ _ _ 0 _ -- 131
                    unfold StepW
                    intro u w_ hj hd K hK
                    have h130 : u 130 = .pointer (some ⟨a, 0, none⟩) := hd.get 0 (by kernel_rfl)
                    clear hd
                    simp only [h130] at hK
                    go_simp
                    go_at_call 16
                    refine (S.pos γ' w0.heap.size a d n (p + kn) w_ (S.new HY.out.one.fin hj)).mono ?_
                    rintro z w2 ⟨rfl, c2⟩
                    exact hK.out _ w2 (chg_then hj c2) rfl
                  · show StepR _ _ _ _ _ _  _ -- 132
                    unfold StepR
                    intro q u w_ hj hd K hK
                    clear hd
                    go_simp
                    exact hK.out (.pointer (some ⟨r, 0, none⟩)) rfl
                  · show StepR _ _ _ _ _ _  _ -- 133
                    unfold StepR
                    intro q u w_ hj hd K hK
                    have h132 : u 132 = .pointer (some ⟨r, 0, none⟩) := hd.get 2 (by kernel_rfl)
                    clear hd
                    simp only [h132] at hK
                    go_simp
                    exact hK.out (.pointer (some ⟨r, 0, none⟩)) rfl
                  · show StepR _ _ _ _ _ _  _ -- 134
                    unfold StepR
                    intro q u w_ hj hd K hK
                    have h133 : u 133 = .pointer (some ⟨r, 0, none⟩) := hd.get 3 (by kernel_rfl)
                    clear hd
                    simp only [h133] at hK
                    go_simp
                    exact hK.out (.pointer (some ⟨r, 2, none⟩)) rfl
                  · show StepR _ _ _ _ _ _  _ -- 135
                    unfold StepR
                    intro q u w_ hj hd K hK
                    have h134 : u 134 = .pointer (some ⟨r, 2, none⟩) := hd.get 4 (by kernel_rfl)
                    clear hd
                    simp only [h134] at hK
                    obtain ⟨_, _, hcP, _⟩ := cells3 (HY.out.rf.new hj).blk
                    go_simp
                    exact hK.out _ rfl
                · intro u w8 hj hA K hK

                  have HY8 : Hid (Ex Fin foot w0 w8 γ' a r ad L c d n (p + kn)) := HY.out.new S hj
                  have e131 : u 131 = .int .i64 ((p + kn : Nat) : Int) := hA.at 131 (by kernel_rfl)
                  have e135 : u 135 = .int .i64 ((p + kn : Nat) : Int) := hA.at 135 (by kernel_rfl)
                  clear hA hj HY
                  go_simp
                  refine hK.out _ _ ?_
                  clear hK e131 e135 K
                  go_wp2_with fail
                  go_roundw
                  case rel => exact ⟨i + 1, p + kn, γ', by omega, by go_num, HY8.out⟩
                  case measure => simp [intOf]; omega
            · have HNO : Hid (N < 0 ∨ ((d.length - p : Nat) : Int) < N) := by rw [HDL.out]; show _ ∨ _; omega
              have HNO2 : Hid (N < 0 ∨ ((L - p : Nat) : Int) < N) := by show _ ∨ _; omega
              clear hin
              go_wp2_with fail
              generalize wr.heap.size = b at *
              generalize wr.alloc (.cells #[.int .i64 kd, .int .i64 N, .int .i64 Sp] 50) = W5 at *
              clear s0 s1 s2
              refine wp_region_phase (mk := fun u => #[_, _, _, _, _, _, _, _, _, _, _, _, _, _, _, _, _, _, _, _, _, _, _, _, _, _, _, _, _, _, _, _, _, _, _, _, _, _, _, _, _, _, _, _, _, _, _, _, _, _, _, _, _, _, _, _, _, _, _, _, _, _, _, _, _, _, _, _, _, _, _, _, _, _, _, _, _, _, _, _, _, _, _, _, _, _, _, _, _, _, _, _, _, _, _, _, _, _, _, _, _, _, _, _, _, _, _, _, _, u 109, u 110, u 111, u 112, u 113, u 114, u 115, u 116, u 117, _, _, _, _, _, _, _, _, _, _, _, _, _, _, _, _, _, _, _, _, _]) (G := lookG [(109, .pointer (some ⟨a, 0, none⟩)), (110, .pointer (some ⟨b, 1, none⟩)), (111, .int .i64 N), (112, .int .i64 7), (113, .int .i64 7), (114, .pointer (some ⟨r, 0, none⟩)), (115, .pointer (some ⟨b, 1, none⟩)), (116, .int .i64 N), (117, .int .i64 7)]) (J := fun _ _ ww => ww.heap[b]? = some (.cells #[.int .i64 kd, .int .i64 N, .int .i64 Sp] 50 (0, 0)) ∧ Chg (fun _ => False) W5 ww) [3, 4, 8] (fun t => match t with | 109 => u109 | 110 => u110 | 111 => u111 | 112 => u112 | 113 => u113 | 114 => u114 | 115 => u115 | 116 => u116 | 117 => u117 | _ => undef) rfl (by kernel_rfl) 9 _ rfl rfl (by kernel_rfl) (by kernel_rfl) (by kernel_rfl) (by decide) ?_ ?_ ?_ ?_ ?_
              · repeat (refine ⟨⟨_, rfl, fun _ _ => rfl⟩, ?_⟩)
                exact trivial
              · exact fun q u u2 ww _ h => h
              · exact ⟨blk_keep HBX.out (Chg.refl (fun _ => False) W5).drew (fun f => f), (Chg.refl _ W5).drew⟩
              · refine ⟨?_, ?_, ?_, ?_, ?_, ?_, ?_, ?_, ?_, trivial⟩
                · show StepR _ _ _ _ _ _  _ -- 109
                  unfold StepR
                  intro q u w_ hj hd K hK
                  clear hd
                  go_simp
                  exact hK.out (.pointer (some ⟨a, 0, none⟩)) rfl
                · show StepR _ _ _ _ _ _  _ -- 110
                  unfold StepR
                  intro q u w_ hj hd K hK
                  clear hd
                  go_simp
                  exact hK.out (.pointer (some ⟨b, 1, none⟩)) rfl
                · show StepR _ _ _ _ _ _  _ -- 111
                  unfold StepR
                  intro q u w_ hj hd K hK
                  have h110 : u 110 = .pointer (some ⟨b, 1, none⟩) := hd.get 1 (by kernel_rfl)
                  clear hd
                  simp only [h110] at hK
                  obtain ⟨_, hcN, _⟩ := cellsN3 hj.1
                  go_simp
                  exact hK.out _ rfl
                · show StepW _ _ _ _ _ _ 0 _ -- 112
                  unfold StepW
                  intro u w_ hj hd K hK
                  have h109 : u 109 = .pointer (some ⟨a, 0, none⟩) := hd.get 0 (by kernel_rfl)
                  have h111 : u 111 = .int .i64 N := hd.get 2 (by kernel_rfl)
                  clear hd
                  simp only [h109, h111] at hK
                  obtain ⟨hb, hc⟩ := hj
                  go_simp
                  go_at_call 13
                  refine (S.skipOut γ w0.heap.size a d n p N w_ (S.new HX5.out.one.fin hc) hNi HNO.out).mono ?_
                  rintro z w2 ⟨rfl, c2⟩
                  exact hK.out _ w2 ⟨blk_keep hb c2 (fun f => f), chg_then hc c2⟩ rfl
                · show StepW _ _ _ _ _ _ 1 _ -- 113
                  unfold StepW
                  intro u w_ hj hd K hK
                  have h112 : u 112 = .int .i64 7 := hd.get 3 (by kernel_rfl)
                  clear hd
                  simp only [h112] at hK
                  obtain ⟨hb, hc⟩ := hj
                  go_simp
                  go_at_call 9
                  refine (num_any _ _).mono ?_
                  rintro z w2 ⟨rfl, rfl⟩
                  exact hK.out _ w_ ⟨hb, hc⟩ rfl
                · show StepR _ _ _ _ _ _  _ -- 114
                  unfold StepR
                  intro q u w_ hj hd K hK
                  clear hd
                  go_simp
                  exact hK.out (.pointer (some ⟨r, 0, none⟩)) rfl
                · show StepR _ _ _ _ _ _  _ -- 115
                  unfold StepR
                  intro q u w_ hj hd K hK
                  clear hd
                  go_simp
                  exact hK.out (.pointer (some ⟨b, 1, none⟩)) rfl
                · show StepR _ _ _ _ _ _  _ -- 116
                  unfold StepR
                  intro q u w_ hj hd K hK
                  have h115 : u 115 = .pointer (some ⟨b, 1, none⟩) := hd.get 6 (by kernel_rfl)
                  clear hd
                  simp only [h115] at hK
                  obtain ⟨_, hcN, _⟩ := cellsN3 hj.1
                  go_simp
                  exact hK.out _ rfl
                · show StepW _ _ _ _ _ _ 2 _ -- 117
                  unfold StepW
                  intro u w_ hj hd K hK
                  have h114 : u 114 = .pointer (some ⟨r, 0, none⟩) := hd.get 5 (by kernel_rfl)
                  have h116 : u 116 = .int .i64 N := hd.get 7 (by kernel_rfl)
                  clear hd
                  simp only [h114, h116] at hK
                  obtain ⟨hb, hc⟩ := hj
                  go_simp
                  go_at_call 19
                  refine (rfskip_out r ad L c d n p N w_ (HX5.out.rf.new hc) HNO2.out).mono ?_
                  rintro z w2 ⟨rfl, c2⟩
                  exact hK.out _ w2 ⟨blk_keep hb c2 (fun f => f), chg_then hc c2⟩ rfl
              · intro u W7 hj hA K hK
                have HY : Hid (Ex Fin foot w0 W7 γ a r ad L c d n p) := HX5.out.new S hj.2
                have e113 : u 113 = .int .i64 7 := hA.at 113 (by kernel_rfl)
                have e117 : u 117 = .int .i64 7 := hA.at 117 (by kernel_rfl)
                clear hA hj HX5 HBX HAB HBR
                go_simp
                refine hK.out _ _ ?_
                clear hK K
                go_wp2_with fail
                refine wp_region_phase (mk := fun u => #[_, _, _, _, _, _, _, _, _, _, _, _, _, _, _, _, _, _, _, _, _, _, _, _, _, _, _, _, _, _, _, _, _, _, _, _, _, _, _, _, _, _, _, _, _, _, _, _, _, _, _, _, _, _, _, _, _, _, _, _, _, _, _, _, _, _, _, _, _, _, _, _, _, _, _, _, _, _, _, _, _, _, _, _, _, _, _, _, _, _, _, _, _, _, _, _, _, _, _, _, _, _, _, _, _, _, _, _, _, _, _, _, _, _, _, _, _, _, _, _, _, _, _, _, _, _, _, _, _, _, u 130, u 131, u 132, u 133, u 134, u 135, _, _, _]) (G := lookG [(130, .pointer (some ⟨a, 0, none⟩)), (131, .int .i64 (p : Int)), (132, .pointer (some ⟨r, 0, none⟩)), (133, .pointer (some ⟨r, 0, none⟩)), (134, .pointer (some ⟨r, 2, none⟩)), (135, .int .i64 (p : Int))]) (J := fun _ _ ww => Chg (fun _ => False) W7 ww) [1] (fun t => match t with | 130 => u130 | 131 => u131 | 132 => u132 | 133 => u133 | 134 => u134 | 135 => u135 | _ => undef) rfl (by kernel_rfl) 6 _ rfl rfl (by kernel_rfl) (by kernel_rfl) (by kernel_rfl) (by decide) ?_ ?_ ?_ ?_ ?_
                · repeat (refine ⟨⟨_, rfl, fun _ _ => rfl⟩, ?_⟩)
                  exact trivial
                · exact fun q u u2 ww _ h => h
                · exact (Chg.refl _ W7).drew
                · refine ⟨?_, ?_, ?_, ?_, ?_, ?_, trivial⟩
                  · show StepR _ _ _ _ _ _  _ -- 130
                    unfold StepR
                    intro q u w_ hj hd K hK
                    clear hd
                    go_simp
                    exact hK.out (.pointer (some ⟨a, 0, none⟩)) rfl
                  · show StepW _ _ _ _ _ _ 0 _ -- 131
                    unfold StepW
                    intro u w_ hj hd K hK
                    have h130 : u 130 = .pointer (some ⟨a, 0, none⟩) := hd.get 0 (by kernel_rfl)
                    clear hd
                    simp only [h130] at hK
                    go_simp
                    go_at_call 16
                    refine (S.pos γ w0.heap.size a d n p w_ (S.new HY.out.one.fin hj)).mono ?_
                    rintro z w2 ⟨rfl, c2⟩
                    exact hK.out _ w2 (chg_then hj c2) rfl
                  · show StepR _ _ _ _ _ _  _ -- 132
                    unfold StepR
                    intro q u w_ hj hd K hK
                    clear hd
                    go_simp
                    exact hK.out (.pointer (some ⟨r, 0, none⟩)) rfl
                  · show StepR _ _ _ _ _ _  _ -- 133
                    unfold StepR
                    intro q u w_ hj hd K hK
                    have h132 : u 132 = .pointer (some ⟨r, 0, none⟩) := hd.get 2 (by kernel_rfl)
                    clear hd
                    simp only [h132] at hK
                    go_simp
                    exact hK.out (.pointer (some ⟨r, 0, none⟩)) rfl
                  · show StepR _ _ _ _ _ _  _ -- 134
                    unfold StepR
                    intro q u w_ hj hd K hK
                    have h133 : u 133 = .pointer (some ⟨r, 0, none⟩) := hd.get 3 (by kernel_rfl)
                    clear hd
                    simp only [h133] at hK
                    go_simp
                    exact hK.out (.pointer (some ⟨r, 2, none⟩)) rfl
                  · show StepR _ _ _ _ _ _  _ -- 135
                    unfold StepR
                    intro q u w_ hj hd K hK
                    have h134 : u 134 = .pointer (some ⟨r, 2, none⟩) := hd.get 4 (by kernel_rfl)
                    clear hd
                    simp only [h134] at hK
                    obtain ⟨_, _, hcP, _⟩ := cells3 (HY.out.rf.new hj).blk
                    go_simp
                    exact hK.out _ rfl
                · intro u w8 hj hA K hK

                  have HY8 : Hid (Ex Fin foot w0 w8 γ a r ad L c d n p) := HY.out.new S hj
                  have e131 : u 131 = .int .i64 (p : Int) := hA.at 131 (by kernel_rfl)
                  have e135 : u 135 = .int .i64 (p : Int) := hA.at 135 (by kernel_rfl)
                  clear hA hj HY
                  go_simp
                  refine hK.out _ _ ?_
                  clear hK e131 e135 K
                  go_wp2_with fail
                  go_roundw
                  case rel => exact ⟨i + 1, p, γ, by omega, by go_num, HY8.out⟩
                  case measure => simp [intOf]; omega
          · have hb0 : (kd == 0) = false := by rw [beq_eq_false_iff_ne]; exact hk0
            by_cases hk1 : kd = 1
            · have hb1 : (kd == 1) = true := by simp [hk1]
              obtain ⟨bx, hbx⟩ : ∃ bx, bestM (mat d n p N) = bx := ⟨_, rfl⟩
              obtain ⟨bl, bd⟩ := bx
              have HBM : Hid (bestM (mat d n p N) = (bl, bd)) := hbx
              clear hk0 hk1 hbx
              go_wp2_with fail
              generalize wr.heap.size = b at *
              generalize wr.alloc (.cells #[.int .i64 kd, .int .i64 N, .int .i64 Sp] 50) = W5 at *
              clear s0 s1 s2
              refine wp_region_phase (mk := fun u => #[_, _, _, _, _, _, _, _, _, _, _, _, _, _, _, _, _, _, _, _, _, _, _, _, _, _, _, _, _, _, _, _, _, _, _, _, _, _, _, _, _, _, _, _, _, _, _, _, _, _, _, _, _, _, _, _, _, _, _, _, _, _, _, _, _, _, _, _, _, _, _, _, _, _, _, _, _, _, _, _, _, _, _, _, _, _, _, _, _, _, _, _, _, _, _, _, _, _, _, _, _, _, _, _, _, _, _, _, _, _, _, _, _, _, _, _, _, _, _, _, _, u 121, u 122, u 123, u 124, u 125, u 126, u 127, u 128, _, _, _, _, _, _, _, _, _, _]) (G := lookG [(121, .pointer (some ⟨a, 0, none⟩)), (122, .pointer (some ⟨b, 1, none⟩)), (123, .int .i64 N), (124, .agg #[.int .i64 (bl : Int), .int .i64 (bd : Int)]), (125, .pointer (some ⟨r, 0, none⟩)), (126, .pointer (some ⟨b, 1, none⟩)), (127, .int .i64 N), (128, .agg #[.int .i64 (bl : Int), .int .i64 (bd : Int)])]) (J := fun _ _ ww => ww.heap[b]? = some (.cells #[.int .i64 kd, .int .i64 N, .int .i64 Sp] 50 (0, 0)) ∧ Chg (fun _ => False) W5 ww) [3, 7] (fun t => match t with | 121 => u121 | 122 => u122 | 123 => u123 | 124 => u124 | 125 => u125 | 126 => u126 | 127 => u127 | 128 => u128 | _ => undef) rfl (by kernel_rfl) 8 _ rfl rfl (by kernel_rfl) (by kernel_rfl) (by kernel_rfl) (by decide) ?_ ?_ ?_ ?_ ?_
              · repeat (refine ⟨⟨_, rfl, fun _ _ => rfl⟩, ?_⟩)
                exact trivial
              · exact fun q u u2 ww _ h => h
              · exact ⟨blk_keep HBX.out (Chg.refl (fun _ => False) W5).drew (fun f => f), (Chg.refl _ W5).drew⟩
              · refine ⟨?_, ?_, ?_, ?_, ?_, ?_, ?_, ?_, trivial⟩
                · show StepR _ _ _ _ _ _  _ -- 121
                  unfold StepR
                  intro q u w_ hj hd K hK
                  clear hd
                  go_simp
                  exact hK.out (.pointer (some ⟨a, 0, none⟩)) rfl
                · show StepR _ _ _ _ _ _  _ -- 122
                  unfold StepR
                  intro q u w_ hj hd K hK
                  clear hd
                  go_simp
                  exact hK.out (.pointer (some ⟨b, 1, none⟩)) rfl
                · show StepR _ _ _ _ _ _  _ -- 123
                  unfold StepR
                  intro q u w_ hj hd K hK
                  have h122 : u 122 = .pointer (some ⟨b, 1, none⟩) := hd.get 1 (by kernel_rfl)
                  clear hd
                  simp only [h122] at hK
                  obtain ⟨_, hcN, _⟩ := cellsN3 hj.1
                  go_simp
                  exact hK.out _ rfl
                · show StepW _ _ _ _ _ _ 0 _ -- 124
                  unfold StepW
                  intro u w_ hj hd K hK
                  have h121 : u 121 = .pointer (some ⟨a, 0, none⟩) := hd.get 0 (by kernel_rfl)
                  have h123 : u 123 = .int .i64 N := hd.get 2 (by kernel_rfl)
                  clear hd
                  simp only [h121, h123] at hK
                  obtain ⟨hb, hc⟩ := hj
                  go_simp
                  go_at_call 11
                  refine (S.best γ w0.heap.size a d n p N w_ (S.new HX5.out.one.fin hc) hNi).mono ?_
                  rw [HBM.out]
                  rintro z w2 ⟨rfl, c2⟩
                  exact hK.out _ w2 ⟨blk_keep hb c2 (fun f => f), chg_then hc c2⟩ rfl
                · show StepR _ _ _ _ _ _  _ -- 125
                  unfold StepR
                  intro q u w_ hj hd K hK
                  clear hd
                  go_simp
                  exact hK.out (.pointer (some ⟨r, 0, none⟩)) rfl
                · show StepR _ _ _ _ _ _  _ -- 126
                  unfold StepR
                  intro q u w_ hj hd K hK
                  clear hd
                  go_simp
                  exact hK.out (.pointer (some ⟨b, 1, none⟩)) rfl
                · show StepR _ _ _ _ _ _  _ -- 127
                  unfold StepR
                  intro q u w_ hj hd K hK
                  have h126 : u 126 = .pointer (some ⟨b, 1, none⟩) := hd.get 5 (by kernel_rfl)
                  clear hd
                  simp only [h126] at hK
                  obtain ⟨_, hcN, _⟩ := cellsN3 hj.1
                  go_simp
                  exact hK.out _ rfl
                · show StepW _ _ _ _ _ _ 1 _ -- 128
                  unfold StepW
                  intro u w_ hj hd K hK
                  have h125 : u 125 = .pointer (some ⟨r, 0, none⟩) := hd.get 4 (by kernel_rfl)
                  have h127 : u 127 = .int .i64 N := hd.get 6 (by kernel_rfl)
                  clear hd
                  simp only [h125, h127] at hK
                  obtain ⟨hb, hc⟩ := hj
                  go_simp
                  go_at_call 20
                  refine (rfbest_any r ad L c d n p N w_ (HX5.out.rf.new hc) hNi).mono ?_
                  rw [HBM.out]
                  rintro z w2 ⟨rfl, c2⟩
                  exact hK.out _ w2 ⟨blk_keep hb c2 (fun f => f), chg_then hc c2⟩ rfl
              · intro u W7 hj hA K hK
                have HY : Hid (Ex Fin foot w0 W7 γ a r ad L c d n p) := HX5.out.new S hj.2
                have e124 : u 124 = .agg #[.int .i64 (bl : Int), .int .i64 (bd : Int)] := hA.at 124 (by kernel_rfl)
                have e128 : u 128 = .agg #[.int .i64 (bl : Int), .int .i64 (bd : Int)] := hA.at 128 (by kernel_rfl)
                clear hA hj HX5 HBX HAB HBR
                go_simp
                refine hK.out _ _ ?_
                clear hK K
                go_wp2_with fail
                refine wp_region_phase (mk := fun u => #[_, _, _, _, _, _, _, _, _, _, _, _, _, _, _, _, _, _, _, _, _, _, _, _, _, _, _, _, _, _, _, _, _, _, _, _, _, _, _, _, _, _, _, _, _, _, _, _, _, _, _, _, _, _, _, _, _, _, _, _, _, _, _, _, _, _, _, _, _, _, _, _, _, _, _, _, _, _, _, _, _, _, _, _, _, _, _, _, _, _, _, _, _, _, _, _, _, _, _, _, _, _, _, _, _, _, _, _, _, _, _, _, _, _, _, _, _, _, _, _, _, _, _, _, _, _, _, _, _, _, u 130, u 131, u 132, u 133, u 134, u 135, _, _, _]) (G := lookG [(130, .pointer (some ⟨a, 0, none⟩)), (131, .int .i64 (p : Int)), (132, .pointer (some ⟨r, 0, none⟩)), (133, .pointer (some ⟨r, 0, none⟩)), (134, .pointer (some ⟨r, 2, none⟩)), (135, .int .i64 (p : Int))]) (J := fun _ _ ww => Chg (fun _ => False) W7 ww) [1] (fun t => match t with | 130 => u130 | 131 => u131 | 132 => u132 | 133 => u133 | 134 => u134 | 135 => u135 | _ => undef) rfl (by kernel_rfl) 6 _ rfl rfl (by kernel_rfl) (by kernel_rfl) (by kernel_rfl) (by decide) ?_ ?_ ?_ ?_ ?_
                · repeat (refine ⟨⟨_, rfl, fun _ _ => rfl⟩, ?_⟩)
                  exact trivial
                · exact fun q u u2 ww _ h => h
                · exact (Chg.refl _ W7).drew
                · refine ⟨?_, ?_, ?_, ?_, ?_, ?_, trivial⟩
                  · show StepR _ _ _ _ _ _  _ -- 130
                    unfold StepR
                    intro q u w_ hj hd K hK
                    clear hd
                    go_simp
                    exact hK.out (.pointer (some ⟨a, 0, none⟩)) rfl
                  · show StepW _ _ _ _ _ _ 0 _ -- 131
                    unfold StepW
                    intro u w_ hj hd K hK
                    have h130 : u 130 = .pointer (some ⟨a, 0, none⟩) := hd.get 0 (by kernel_rfl)
                    clear hd
                    simp only [h130] at hK
                    go_simp
                    go_at_call 16
                    refine (S.pos γ w0.heap.size a d n p w_ (S.new HY.out.one.fin hj)).mono ?_
                    rintro z w2 ⟨rfl, c2⟩
                    exact hK.out _ w2 (chg_then hj c2) rfl
                  · show StepR _ _ _ _ _ _  _ -- 132
                    unfold StepR
                    intro q u w_ hj hd K hK
                    clear hd
                    go_simp
                    exact hK.out (.pointer (some ⟨r, 0, none⟩)) rfl
                  · show StepR _ _ _ _ _ _  _ -- 133
                    unfold StepR
                    intro q u w_ hj hd K hK
                    have h132 : u 132 = .pointer (some ⟨r, 0, none⟩) := hd.get 2 (by kernel_rfl)
                    clear hd
                    simp only [h132] at hK
                    go_simp
                    exact hK.out (.pointer (some ⟨r, 0, none⟩)) rfl
                  · show StepR _ _ _ _ _ _  _ -- 134
                    unfold StepR
                    intro q u w_ hj hd K hK
                    have h133 : u 133 = .pointer (some ⟨r, 0, none⟩) := hd.get 3 (by kernel_rfl)
                    clear hd
                    simp only [h133] at hK
                    go_simp
                    exact hK.out (.pointer (some ⟨r, 2, none⟩)) rfl
                  · show StepR _ _ _ _ _ _  _ -- 135
                    unfold StepR
                    intro q u w_ hj hd K hK
                    have h134 : u 134 = .pointer (some ⟨r, 2, none⟩) := hd.get 4 (by kernel_rfl)
                    clear hd
                    simp only [h134] at hK
                    obtain ⟨_, _, hcP, _⟩ := cells3 (HY.out.rf.new hj).blk
                    go_simp
                    exact hK.out _ rfl
                · intro u w8 hj hA K hK

                  have HY8 : Hid (Ex Fin foot w0 w8 γ a r ad L c d n p) := HY.out.new S hj
                  have e131 : u 131 = .int .i64 (p : Int) := hA.at 131 (by kernel_rfl)
                  have e135 : u 135 = .int .i64 (p : Int) := hA.at 135 (by kernel_rfl)
                  clear hA hj HY
                  go_simp
                  refine hK.out _ _ ?_
                  clear hK e131 e135 K
                  go_wp2_with fail
                  go_roundw
                  case rel => exact ⟨i + 1, p, γ, by omega, by go_num, HY8.out⟩
                  case measure => simp [intOf]; omega
            · have hb1 : (kd == 1) = false := by rw [beq_eq_false_iff_ne]; exact hk1
              have hml := mat_len d n p N
              obtain ⟨ms, hms⟩ : ∃ ms, mat d n p N = ms := ⟨_, rfl⟩
              have HMS : Hid (mat d n p N = ms) := hms
              rw [hms] at hml
              obtain ⟨Lm, hLm⟩ : ∃ Lm, ms.length = Lm := ⟨_, rfl⟩
              have HLM : Hid (ms.length = Lm) := hLm
              have hLm64 : Lm ≤ 64 := by omega
              clear hk0 hk1 hms hml hLm
              go_wp2_with fail
              generalize wr.heap.size = b at *
              generalize wr.alloc (.cells #[.int .i64 kd, .int .i64 N, .int .i64 Sp] 50) = W5 at *
              clear s0 s1 s2
              refine wp_region_phase (mk := fun u => #[_, _, _, _, _, _, _, _, _, _, _, _, _, _, _, _, _, _, _, _, _, _, _, _, _, _, _, _, _, _, _, _, _, _, _, _, _, _, _, _, _, _, _, _, _, _, _, _, _, _, _, _, _, _, _, _, _, _, _, _, _, _, _, _, _, _, _, _, _, _, _, _, _, _, _, _, _, _, _, _, _, _, _, _, _, _, _, u 87, u 88, u 89, u 90, u 91, u 92, u 93, u 94, u 95, u 96, u 97, u 98, u 99, u 100, u 101, u 102, u 103, u 104, u 105, _, _, _, _, _, _, _, _, _, _, _, _, _, _, _, _, _, _, _, _, _, _, _, _, _, _, _, _, _, _, _, _, _]) (G := lookG [(87, .pointer (some ⟨a, 0, none⟩)), (88, .pointer (some ⟨b, 1, none⟩)), (89, .int .i64 N), (91, .pointer (some ⟨r, 0, none⟩)), (92, .pointer (some ⟨b, 1, none⟩)), (93, .int .i64 N), (95, .bool true), (96, .bool false), (97, .bool false), (98, .pointer (some ⟨a, 0, none⟩)), (99, .agg #[.int .i64 kd, .int .i64 N, .int .i64 Sp]), (100, .pointer (some ⟨r, 0, none⟩)), (101, .pointer (some ⟨b, 1, none⟩)), (102, .int .i64 N), (104, .bool true), (105, .bool false)]) (J := fun q u ww => ww.heap[b]? = some (.cells #[.int .i64 kd, .int .i64 N, .int .i64 Sp] 50 (0, 0)) ∧ MtJ W5 ms Lm q (u 90) (u 94) (u 103) ww) [3, 7, 8, 9, 10, 16, 17] (fun t => match t with | 87 => u87 | 88 => u88 | 89 => u89 | 90 => u90 | 91 => u91 | 92 => u92 | 93 => u93 | 94 => u94 | 95 => u95 | 96 => u96 | 97 => u97 | 98 => u98 | 99 => u99 | 100 => u100 | 101 => u101 | 102 => u102 | 103 => u103 | 104 => u104 | 105 => u105 | _ => undef) rfl (by kernel_rfl) 19 _ rfl rfl (by kernel_rfl) (by kernel_rfl) (by kernel_rfl) (by decide) ?_ ?_ ?_ ?_ ?_
              · repeat (refine ⟨⟨_, rfl, fun _ _ => rfl⟩, ?_⟩)
                exact trivial
              · intro q u u2 ww h hj
                have e90 : u 90 = u2 90 := h 3 (by decide)
                have e94 : u 94 = u2 94 := h 7 (by decide)
                have e103 : u 103 = u2 103 := h 16 (by decide)
                show _ ∧ MtJ W5 ms Lm q (u2 90) (u2 94) (u2 103) ww
                rw [← e90, ← e94, ← e103]
                exact hj
              · exact ⟨blk_keep HBX.out (Chg.refl (fun _ => False) W5).drew (fun f => f), (Chg.refl _ W5).drew⟩
              · refine ⟨?_, ?_, ?_, ?_, ?_, ?_, ?_, ?_, ?_, ?_, ?_, ?_, ?_, ?_, ?_, ?_, ?_, ?_, ?_, trivial⟩
                · show StepR _ _ _ _ _ _  _ -- 87
                  unfold StepR
                  intro q u w_ hj hd K hK
                  clear hd
                  go_simp
                  exact hK.out (.pointer (some ⟨a, 0, none⟩)) rfl
                · show StepR _ _ _ _ _ _  _ -- 88
                  unfold StepR
                  intro q u w_ hj hd K hK
                  clear hd
                  go_simp
                  exact hK.out (.pointer (some ⟨b, 1, none⟩)) rfl
                · show StepR _ _ _ _ _ _  _ -- 89
                  unfold StepR
                  intro q u w_ hj hd K hK
                  have h88 : u 88 = .pointer (some ⟨b, 1, none⟩) := hd.get 1 (by kernel_rfl)
                  clear hd
                  simp only [h88] at hK
                  obtain ⟨_, hcN, _⟩ := cellsN3 hj.1
                  go_simp
                  exact hK.out _ rfl
                · show StepW _ _ _ _ _ _ 0 _ -- 90
                  unfold StepW
                  intro u w_ hj hd K hK
                  have h87 : u 87 = .pointer (some ⟨a, 0, none⟩) := hd.get 0 (by kernel_rfl)
                  have h89 : u 89 = .int .i64 N := hd.get 2 (by kernel_rfl)
                  clear hd
                  simp only [h87, h89] at hK
                  obtain ⟨hb, hc⟩ := hj
                  have hc : Chg (fun _ => False) W5 w_ := hc
                  go_simp
                  go_at_call 12
                  refine (all_any S γ w0.heap.size a d n p N w_ (S.new HX5.out.one.fin hc) hNi).mono ?_
                  rw [HMS.out, HLM.out]
                  rintro z w2 ⟨v2, rfl, ho, c2⟩
                  obtain ⟨a2, d2, hv2⟩ := formN ho
                  exact hK.out v2 w2 ⟨blk_keep hb c2 (fun f => f), chg_then hc c2, a2, d2, hv2, by rw [hv2] at ho; exact mrow_own ho⟩ trivial
                · show StepR _ _ _ _ _ _  _ -- 91
                  unfold StepR
                  intro q u w_ hj hd K hK
                  clear hd
                  go_simp
                  exact hK.out (.pointer (some ⟨r, 0, none⟩)) rfl
                · show StepR _ _ _ _ _ _  _ -- 92
                  unfold StepR
                  intro q u w_ hj hd K hK
                  clear hd
                  go_simp
                  exact hK.out (.pointer (some ⟨b, 1, none⟩)) rfl
                · show StepR _ _ _ _ _ _  _ -- 93
                  unfold StepR
                  intro q u w_ hj hd K hK
                  have h92 : u 92 = .pointer (some ⟨b, 1, none⟩) := hd.get 5 (by kernel_rfl)
                  clear hd
                  simp only [h92] at hK
                  obtain ⟨_, hcN, _⟩ := cellsN3 hj.1
                  go_simp
                  exact hK.out _ rfl
                · show StepW _ _ _ _ _ _ 1 _ -- 94
                  unfold StepW
                  intro u w_ hj hd K hK
                  have h91 : u 91 = .pointer (some ⟨r, 0, none⟩) := hd.get 4 (by kernel_rfl)
                  have h93 : u 93 = .int .i64 N := hd.get 6 (by kernel_rfl)
                  clear hd
                  simp only [h91, h93] at hK
                  obtain ⟨hb, hc, a1, d1, e90, hm1⟩ := hj
                  have E90 : Hid (u 90 = .slice a1 Lm d1) := e90
                  clear e90
                  go_simp
                  go_at_call 21
                  refine (rfmatches_any r ad L c d n p N w_ (HX5.out.rf.new hc) hNi).mono ?_
                  rw [HMS.out, HLM.out]
                  rintro z w2 ⟨v2, rfl, ho, c2⟩
                  obtain ⟨a2, d2, hv2⟩ := formN ho
                  exact hK.out v2 w2 ⟨blk_keep hb c2 (fun f => f), chg_then hc c2, a1, d1, a2, d2, E90.out, hv2, hm1.new c2, by rw [hv2] at ho; exact mrow_own ho⟩ trivial
                · show StepW _ _ _ _ _ _ 2 _ -- 95
                  unfold StepW
                  intro u w_ hj hd K hK
                  clear hd
                  obtain ⟨hb, hc, a1, d1, a2, d2, e90, e94, hm1, hm2⟩ := hj
                  simp only [e90, e94] at hK
                  go_simp
                  go_at_call 15
                  refine (same_q a1 a2 d1 d2 Lm ms w_ hm1 hm2 HLM.out hLm64).mono ?_
                  rintro z w2 ⟨rfl, kk, rfl⟩
                  exact hK.out _ _ ⟨blk_keep hb (chg_drewN _ _) (fun f => f), chg_then hc (chg_drewN _ _)⟩ rfl
                · show StepW _ _ _ _ _ _ 3 _ -- 96
                  unfold StepW
                  intro u w_ hj hd K hK
                  have h95 : u 95 = .bool true := hd.get 8 (by kernel_rfl)
                  clear hd
                  simp only [h95] at hK
                  go_simp
                  exact hK.out _ _ hj rfl
                · show StepW _ _ _ _ _ _ 4 _ -- 97
                  unfold StepW
                  intro u w_ hj hd K hK
                  have h96 : u 96 = .bool false := hd.get 9 (by kernel_rfl)
                  clear hd
                  simp only [h96] at hK
                  go_simp
                  exact hK.out _ _ hj rfl
                · show StepR _ _ _ _ _ _  _ -- 98
                  unfold StepR
                  intro q u w_ hj hd K hK
                  have h97 : u 97 = .bool false := hd.get 10 (by kernel_rfl)
                  clear hd
                  simp only [h97] at hK
                  go_simp
                  exact hK.out (.pointer (some ⟨a, 0, none⟩)) rfl
                · show StepR _ _ _ _ _ _  _ -- 99
                  unfold StepR
                  intro q u w_ hj hd K hK
                  have h97 : u 97 = .bool false := hd.get 10 (by kernel_rfl)
                  clear hd
                  simp only [h97] at hK
                  obtain ⟨hc0, hc1, hc2⟩ := cellsN3 hj.1
                  go_simp
                  exact hK.out _ rfl
                · show StepR _ _ _ _ _ _  _ -- 100
                  unfold StepR
                  intro q u w_ hj hd K hK
                  have h97 : u 97 = .bool false := hd.get 10 (by kernel_rfl)
                  clear hd
                  simp only [h97] at hK
                  go_simp
                  exact hK.out (.pointer (some ⟨r, 0, none⟩)) rfl
                · show StepR _ _ _ _ _ _  _ -- 101
                  unfold StepR
                  intro q u w_ hj hd K hK
                  have h97 : u 97 = .bool false := hd.get 10 (by kernel_rfl)
                  clear hd
                  simp only [h97] at hK
                  go_simp
                  exact hK.out (.pointer (some ⟨b, 1, none⟩)) rfl
                · show StepR _ _ _ _ _ _  _ -- 102
                  unfold StepR
                  intro q u w_ hj hd K hK
                  have h101 : u 101 = .pointer (some ⟨b, 1, none⟩) := hd.get 14 (by kernel_rfl)
                  have h97 : u 97 = .bool false := hd.get 10 (by kernel_rfl)
                  clear hd
                  simp only [h101, h97] at hK
                  obtain ⟨_, hcN, _⟩ := cellsN3 hj.1
                  go_simp
                  exact hK.out _ rfl
                · show StepW _ _ _ _ _ _ 5 _ -- 103
                  unfold StepW
                  intro u w_ hj hd K hK
                  have h100 : u 100 = .pointer (some ⟨r, 0, none⟩) := hd.get 13 (by kernel_rfl)
                  have h102 : u 102 = .int .i64 N := hd.get 15 (by kernel_rfl)
                  have h97 : u 97 = .bool false := hd.get 10 (by kernel_rfl)
                  clear hd
                  simp only [h100, h102, h97] at hK
                  obtain ⟨hb, hc⟩ := hj
                  have hc : Chg (fun _ => False) W5 w_ := hc
                  go_simp
                  go_at_call 21
                  refine (rfmatches_any r ad L c d n p N w_ (HX5.out.rf.new hc) hNi).mono ?_
                  rw [HMS.out, HLM.out]
                  rintro z w2 ⟨v2, rfl, ho, c2⟩
                  obtain ⟨a2, d2, hv2⟩ := formN ho
                  exact hK.out v2 w2 ⟨blk_keep hb c2 (fun f => f), chg_then hc c2, a2, d2, hv2, by rw [hv2] at ho; exact mrow_own ho, fun g e => by rw [hv2, e] at ho; exact (ho.lt g rfl).2⟩ trivial
                · show StepW _ _ _ _ _ _ 6 _ -- 104
                  unfold StepW
                  intro u w_ hj hd K hK
                  have h98 : u 98 = .pointer (some ⟨a, 0, none⟩) := hd.get 11 (by kernel_rfl)
                  have h99 : u 99 = .agg #[.int .i64 kd, .int .i64 N, .int .i64 Sp] := hd.get 12 (by kernel_rfl)
                  have h97 : u 97 = .bool false := hd.get 10 (by kernel_rfl)
                  clear hd
                  obtain ⟨hb, hc, a2, d2, e103, hm2, hlt2⟩ := hj
                  simp only [e103, h98, h99, h97] at hK
                  go_simp
                  go_at_call 22
                  refine (begins_any S γ w0.heap.size a d n p kd N Sp a2 Lm d2 w_ (S.new HX5.out.one.fin hc) hNi (by rw [HMS.out]; exact hm2) hlt2 (by rw [HMS.out]; exact HLM.out)).mono ?_
                  rintro z w2 ⟨rfl, c2⟩
                  exact hK.out _ w2 ⟨blk_keep hb c2 (fun f => f), chg_then hc c2⟩ rfl
                · show StepR _ _ _ _ _ _  _ -- 105
                  unfold StepR
                  intro q u w_ hj hd K hK
                  have h104 : u 104 = .bool true := hd.get 17 (by kernel_rfl)
                  have h97 : u 97 = .bool false := hd.get 10 (by kernel_rfl)
                  clear hd
                  simp only [h104, h97] at hK
                  go_simp
                  exact hK.out (.bool false) rfl
              · intro u W7 hj hA K hK
                have HY : Hid (Ex Fin foot w0 W7 γ a r ad L c d n p) := HX5.out.new S hj.2
                have e97 : u 97 = .bool false := hA.at 97 (by kernel_rfl)
                have e105 : u 105 = .bool false := hA.at 105 (by kernel_rfl)
                clear hA hj HX5 HBX HAB HBR
                go_simp
                refine hK.out _ _ ?_
                clear hK K
                go_wp2_with fail
                refine wp_region_phase (mk := fun u => #[_, _, _, _, _, _, _, _, _, _, _, _, _, _, _, _, _, _, _, _, _, _, _, _, _, _, _, _, _, _, _, _, _, _, _, _, _, _, _, _, _, _, _, _, _, _, _, _, _, _, _, _, _, _, _, _, _, _, _, _, _, _, _, _, _, _, _, _, _, _, _, _, _, _, _, _, _, _, _, _, _, _, _, _, _, _, _, _, _, _, _, _, _, _, _, _, _, _, _, _, _, _, _, _, _, _, _, _, _, _, _, _, _, _, _, _, _, _, _, _, _, _, _, _, _, _, _, _, _, _, u 130, u 131, u 132, u 133, u 134, u 135, _, _, _]) (G := lookG [(130, .pointer (some ⟨a, 0, none⟩)), (131, .int .i64 (p : Int)), (132, .pointer (some ⟨r, 0, none⟩)), (133, .pointer (some ⟨r, 0, none⟩)), (134, .pointer (some ⟨r, 2, none⟩)), (135, .int .i64 (p : Int))]) (J := fun _ _ ww => Chg (fun _ => False) W7 ww) [1] (fun t => match t with | 130 => u130 | 131 => u131 | 132 => u132 | 133 => u133 | 134 => u134 | 135 => u135 | _ => undef) rfl (by kernel_rfl) 6 _ rfl rfl (by kernel_rfl) (by kernel_rfl) (by kernel_rfl) (by decide) ?_ ?_ ?_ ?_ ?_
                · repeat (refine ⟨⟨_, rfl, fun _ _ => rfl⟩, ?_⟩)
                  exact trivial
                · exact fun q u u2 ww _ h => h
                · exact (Chg.refl _ W7).drew
                · refine ⟨?_, ?_, ?_, ?_, ?_, ?_, trivial⟩
                  · show StepR _ _ _ _ _ _  _ -- 130
                    unfold StepR
                    intro q u w_ hj hd K hK
                    clear hd
                    go_simp
                    exact hK.out (.pointer (some ⟨a, 0, none⟩)) rfl
                  · show StepW _ _ _ _ _ _ 0 _ -- 131
                    unfold StepW
                    intro u w_ hj hd K hK
                    have h130 : u 130 = .pointer (some ⟨a, 0, none⟩) := hd.get 0 (by kernel_rfl)
                    clear hd
                    simp only [h130] at hK
                    go_simp
                    go_at_call 16
                    refine (S.pos γ w0.heap.size a d n p w_ (S.new HY.out.one.fin hj)).mono ?_
                    rintro z w2 ⟨rfl, c2⟩
                    exact hK.out _ w2 (chg_then hj c2) rfl
                  · show StepR _ _ _ _ _ _  _ -- 132
                    unfold StepR
                    intro q u w_ hj hd K hK
                    clear hd
                    go_simp
                    exact hK.out (.pointer (some ⟨r, 0, none⟩)) rfl
                  · show StepR _ _ _ _ _ _  _ -- 133
                    unfold StepR
                    intro q u w_ hj hd K hK
                    have h132 : u 132 = .pointer (some ⟨r, 0, none⟩) := hd.get 2 (by kernel_rfl)
                    clear hd
                    simp only [h132] at hK
                    go_simp
                    exact hK.out (.pointer (some ⟨r, 0, none⟩)) rfl
                  · show StepR _ _ _ _ _ _  _ -- 134
                    unfold StepR
                    intro q u w_ hj hd K hK
                    have h133 : u 133 = .pointer (some ⟨r, 0, none⟩) := hd.get 3 (by kernel_rfl)
                    clear hd
                    simp only [h133] at hK
                    go_simp
                    exact hK.out (.pointer (some ⟨r, 2, none⟩)) rfl
                  · show StepR _ _ _ _ _ _  _ -- 135
                    unfold StepR
                    intro q u w_ hj hd K hK
                    have h134 : u 134 = .pointer (some ⟨r, 2, none⟩) := hd.get 4 (by kernel_rfl)
                    clear hd
                    simp only [h134] at hK
                    obtain ⟨_, _, hcP, _⟩ := cells3 (HY.out.rf.new hj).blk
                    go_simp
                    exact hK.out _ rfl
                · intro u w8 hj hA K hK

                  have HY8 : Hid (Ex Fin foot w0 w8 γ a r ad L c d n p) := HY.out.new S hj
                  have e131 : u 131 = .int .i64 (p : Int) := hA.at 131 (by kernel_rfl)
                  have e135 : u 135 = .int .i64 (p : Int) := hA.at 135 (by kernel_rfl)
                  clear hA hj HY
                  go_simp
                  refine hK.out _ _ ?_
                  clear hK e131 e135 K
                  go_wp2_with fail
                  go_roundw
                  case rel => exact ⟨i + 1, p, γ, by omega, by go_num, HY8.out⟩
                  case measure => simp [intOf]; omega
        · have hd1 : decide (i < Z) = false := decide_eq_false hil
          have HCX : Hid (Chg (fun _ => False) w0 wr) := HX.out.one.chg
          go_wp2_with fail
          refine (known_any S wr).mono ?_
          rintro z w9 ⟨rfl, c9⟩
          have HC9 : Hid (Chg (fun _ => False) w0 w9) := chg_then HCX.out c9
          clear c9
          go_wp2
          go_ret
          exact ⟨rfl, HC9.out⟩
end Go.Proofs.Ytkdionoelbiidaa
