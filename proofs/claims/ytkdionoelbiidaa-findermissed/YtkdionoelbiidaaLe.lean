/- The finder's note; of no statement by itself. -/
import Derived.Test.YtkdionoelbiidaaLd
import Derived.Test.YtkdionoelbiidaaFj
import Derived.Test.YtkdionoelbiidaaLastP
namespace Go.Proofs.Ytkdionoelbiidaa
open Go.RowKit
set_option linter.unusedVariables false
set_option linter.unusedSimpArgs false

theorem step_run {P : Program} {ops : Array Oper} {o : Oper} {a : Act} {w : World} {K : Act → World → Prop} {Q : Exit → Act → World → Prop} {E : Prop} {v : Value} (hgd : o.guard = none) (hr : (execOp a.eval o).run P w = .ok (.value v) w) (h : K (a.put o.dst v) w) : if Region.wanted o (yielded ops a.tmps) = true then Oper.wp P o a w K Q else E := by
  rw [if_pos (by simp [Region.wanted, hgd])]
  unfold Oper.wp
  rw [hr]
  exact h
theorem wpList_append_run {P : Program} {w : World} {ops : Array Oper} {rest : List Oper} {o : Oper} {a : Act} {Q : Exit → Act → World → Prop} (hgd : o.guard = none) (s x : Operand) (t : TypeId) (ho : o.op = .call { callee := .builtin .append, args := #[s, x], argTypes := #[t, t] })
    (lv sx v : Value) (w1 : World) (hs : a.eval s = lv) (hx : a.eval x = sx) (hr : (Builtin.append_ #[t, t] o.type #[lv, sx]).run P w = .ok v w1) (h : wpList P ops Q rest (a.put o.dst v) w1) : wpList P ops Q (o :: rest) a w := by
  refine wpList_plain hgd fun K hK => ?_
  unfold Oper.wp
  simp [execOp, ho, resolve, invoke, builtin, hs, hx, hr, Result.andThen]
  exact hK _ _ h
theorem zero_ints (w : World) : (zeroValue 39).run Try.prog w = .ok (.slice none 0 0) w := by kernel_rfl
theorem infoI : (Try.prog.info? 3).map (fun i => (i.zero, i.size, i.bytes)) = some (some (.int .i64 0), 1, 8) := by kernel_rfl
theorem sizeI : (sizeOf 3).run Try.prog = fun w => .ok 1 w := by kernel_rfl
theorem elemI : Try.prog.elem 39 = 3 := by kernel_rfl
theorem undI : Try.prog.underlying 39 = some (.slice (Try.prog.elem 39)) := by kernel_rfl
theorem run_cutI (g o m c k : Nat) (w : World) (hk : k ≤ m) (hc : k < c) : (Instr.sliceAt 39 (.slice (some ⟨g, o, none⟩) m c) (some (.int .i64 (k : Int))) none none).run Try.prog w = .ok (.slice (some ⟨g, o + k, none⟩) (m - k) (c - k)) w := by
  rw [run_sliceAt_slice w 39 _ _ _ _ undI, run_slice_l w 39 _ m c undI .i64 (k : Int) (by omega) (by omega), elemI, sizeI]
  unfold sliced
  have h1 : ¬ c = k := by omega
  simp [Result.andThen, h1, Addr.add]
theorem FinC.look {γ : Gh} {w : World} {B a : Nat} {d : List Nat} {n p lo q : Nat} (h : FinC γ w B a d n p lo q) (x : Nat) : (Instr.lookup 58 (.map (some γ.mp)) (.int .u32 (keyN d x : Int)) false).run Try.prog w = .ok ((γ.F (klT d x)).getD (.slice none 0 0)) w := h.lists.map.look keyedU Try.underlying58 (zero_ints w) (key_of h.dig x)
theorem FinC.blk' {γ : Gh} {w : World} {B a : Nat} {d : List Nat} {n p lo q : Nat} (h : FinC γ w B a d n p lo q) : w.heap[a]? = some (.cells #[.slice γ.da d.length γ.dc, .int .i64 (n : Int), .int .i64 (p : Int), .map (some γ.mp)] 60 (0, 0)) := h.blk
set_option maxHeartbeats 4000000 in
set_option maxRecDepth 100000 in
open Classical in
theorem note_any (γ : Gh) (B a : Nat) (d : List Nat) (n p lo q : Nat) (w : World) (h : FinC γ w B a d n p lo q) (hB : B ≤ w.heap.size) (hlo : lo ≤ q) (hq : q < d.length) : Calls Try.prog 26 #[.pointer (some ⟨a, 0, none⟩), .int .i64 (q : Int)] w fun e w' => (∃ v, e = .returned v) ∧ ∃ γ', Fwd gle gfoot γ γ' w w' ∧ FinC γ' w' B a d n p lo (q + 1) := by
  obtain ⟨L, hL⟩ : ∃ L, d.length = L := ⟨_, rfl⟩
  have HDL : Hid (d.length = L) := hL
  have hbk := h.blk'
  obtain ⟨kc0, kc1, kc2, kc3, _⟩ := cells4 hbk
  have hLb := h.num.2.2.2
  rw [hL] at kc0 hq hLb hbk
  have hqi : (q : Int) ≤ 140737488355328 := by omega
  have hLi : (L : Int) ≤ 140737488355328 := by omega
  obtain ⟨E, hE⟩ : ∃ E, L - q = E := ⟨_, rfl⟩
  have hEi : (L : Int) - (q : Int) = (E : Int) := by omega
  have HF : Hid (FinC γ w B a d n p lo q) := h
  have HBS : Hid (B ≤ w.heap.size) := hB
  clear h hL
  by_cases h3 : q + 3 ≤ L
  · have hg1 : decide ((E : Int) < 3) = false := by simp; omega
    have hg1' : decide (E < 3) = false := by simp; omega
    obtain ⟨gd, hda, hdc, hcl⟩ := HF.out.own_form (by have := HDL.out; omega)
    have hl1 := HDL.out
    have y0 := (hcl q).resolve_right (by omega)
    have y1 := (hcl (q + 1)).resolve_right (by omega)
    have y2 := (hcl (q + 2)).resolve_right (by omega)
    rw [hda] at hbk kc0
    have HT : Hid _ := three_q a gd L γ.dc _ _ _ d q w hbk hLb h3 _ _ _ (dig_getD HF.out.dig q) (dig_getD HF.out.dig (q + 1)) (dig_getD HF.out.dig (q + 2)) y0 y1 y2
    obtain ⟨K0, hK0⟩ : ∃ K0, keyN d q = K0 := ⟨_, rfl⟩
    have hK0' := hK0
    unfold keyN at hK0'
    rw [hK0'] at HT
    have HH3 : Hid (q + 3 ≤ L) := h3
    clear hcl y0 y1 y2 hbk hK0' h3
    go_enter Try.func26, Try.ntmps26
    go_wp2_with fail
    refine Calls.mono HT.out ?_
    rintro z w1 ⟨rfl, k1, rfl⟩
    have cD := chg_drewN w k1
    have HFr : Hid (FinC γ (w.drewN k1) B a d n p lo q) := HF.out.keep cD (fun _ _ f => f)
    have HFW : Hid (Fwd gle gfoot γ γ w (w.drewN k1)) := Fwd.new cD
    have HB1 : Hid (B ≤ (w.drewN k1).heap.size) := Nat.le_trans HBS.out cD.size
    have kc3 := cell_chg kc3 cD
    clear HT HF kc0 kc1 kc2 cD HBS
    generalize w.drewN k1 = Wr at *
    have hlk := HFr.out.look q
    rw [hK0] at hlk
    obtain ⟨lv, hlv⟩ : ∃ lv, (γ.F (klT d q)).getD (.slice none 0 0) = lv := ⟨_, rfl⟩
    rw [hlv] at hlk
    have cN := chg_one Wr (.cells #[.int .i64 (q : Int)] 3)
    have kq := (cells1 (heap_alloc_last Wr (.cells #[.int .i64 (q : Int)] 3))).1
    obtain ⟨i0, hi0, hz0, hz1, hz2⟩ := info_parts infoI
    have hT32 := (HFr.out.tok (klT d q)).2.2.1
    have hrow := (HFr.out.keep cN (fun _ _ f => f)).lists.row (klT d q)
    rw [hlv] at hrow
    obtain ⟨v', W1, g, o, all, hap, hC1, hC2⟩ := run_push2 (P := Try.prog) (Wr.alloc (.cells #[.int .i64 (q : Int)] 3)) B 39 39 3 i0 (.int .i64 0) 8 Try.underlying39 hi0 hz0 hz1 hz2 rfl lv ((γ.T (klT d q)).map pvT) hrow ⟨Wr.heap.size, 0, none⟩ 1 (.int .i64 (q : Int)) kq rfl (by rw [List.length_map]; unfold maxLen; omega) (by rw [List.length_map]; omega) (by have := HB1.out; have := cN.size; omega)
    obtain ⟨c, hv', hcc⟩ : ∃ c, v' = .slice (some ⟨g, o, none⟩) (((γ.T (klT d q)).map pvT) ++ [Value.int .i64 (q : Int)]).length c ∧ (((γ.T (klT d q)).map pvT) ++ [Value.int .i64 (q : Int)]).length ≤ c := by
      obtain ⟨c, _, e1, _, _, e2, _⟩ := hC1
      exact ⟨c, e1, e2⟩
    obtain ⟨m1, hm1⟩ : ∃ m1, (((γ.T (klT d q)).map pvT) ++ [Value.int .i64 (q : Int)]).length = m1 := ⟨_, rfl⟩
    have hm1T : m1 = (γ.T (klT d q)).length + 1 := by rw [← hm1]; simp
    rw [hm1] at hv' hcc
    subst hv'
    have hm1b : m1 ≤ 33 := by omega
    have hm1i : (m1 : Int) ≤ 33 := by omega
    obtain ⟨k, hk⟩ : ∃ k, m1 - 32 = k := ⟨_, rfl⟩
    have HMX : Hid (∀ ww : World, (Builtin.max_ #[3, 3] 3 #[.int .i64 0, .int .i64 ((m1 : Int) - 32)]).run Try.prog ww = .ok (.int .i64 (k : Int)) ww) := fun ww => by
      rw [max2, show max 0 ((m1 : Int) - 32) = (k : Int) by omega]
    have hwr : IntKind.i64.wrap ((m1 : Int) - 32) = (m1 : Int) - 32 := by
      simp [IntKind.wrap, IntKind.signed, IntKind.bits]
      omega
    have HKM : Hid (k ≤ m1 ∧ k < c) := ⟨by omega, by omega⟩
    have HC1 : Hid (CutRow W1 B 3 (.slice (some ⟨g, o, none⟩) m1 c) (((γ.T (klT d q)).map pvT) ++ [Value.int .i64 (q : Int)]) g o (all ++ [Value.int .i64 (q : Int)])) := hC1
    have HG : Hid ((∃ o', CutRow Wr B 3 lv ((γ.T (klT d q)).map pvT) g o' all) ∨ Wr.heap.size ≤ g) := by
      rcases hC2 with ⟨e1, _⟩ | ⟨e1, _⟩
      · by_cases hg : Wr.heap.size ≤ g
        · exact .inr hg
        · left
          obtain ⟨c', cur, f1, f2, f3, f4⟩ := e1
          refine ⟨o, c', cur, f1, f2, ?_, f4⟩
          rw [← f3]
          exact (Below.heap_alloc _ _ _ (by omega)).symm
      · exact .inr (by rw [e1]; simp)
    have cW1 : Chg (fun z => z = g) Wr W1 := by
      rcases hC2 with ⟨_, e⟩ | ⟨_, e⟩
      · exact (cN.mono (fun _ f => f.elim)).trans e (fun z f => .inl f)
      · exact (cN.mono (fun _ f => f.elim)).trans e (fun _ f => f.elim)
    have HCW : Hid (Chg (fun z => z = g) Wr W1) := cW1
    have hga : g ≠ a ∧ g ≠ γ.mp := by
      rcases HG.out with ⟨o', e⟩ | e
      · have e5 := e.own
        rcases HFr.out.lists.here (klT d q) with ⟨e1, _⟩ | ⟨v, g1, o1, all1, e1, e2, e3⟩
        · rw [e1] at hlv; rw [← hlv] at e5; simp [Value.ownBlock] at e5
        · rw [e1] at hlv
          simp only [Option.getD_some] at hlv
          subst hlv
          rw [e2.own] at e5
          obtain rfl := Option.some.inj e5
          refine ⟨fun e6 => HFr.out.a1 (by rw [← e6]; exact .inr ⟨_, e3⟩), fun e6 => ?_⟩
          obtain ⟨_, cur, hcu, _⟩ := e2.blk
          obtain ⟨o2, ho2, hn2⟩ := HFr.out.lists.map.noCells
          rw [← e6, hcu] at ho2; cases ho2; cases hn2
      · have x1 := lt_of_blk HFr.out.blk
        have x3 := HFr.out.mpLt.2
        exact ⟨by omega, by omega⟩
    have kc3 := (cells4 (blk_keep HFr.out.blk' cW1 (fun e => hga.1 e.symm))).2.2.2.1
    have HMF : Hid (MapF W1 Try.prog 69 γ.mp γ.n γ.F) := HFr.out.lists.map.keep cW1 (fun e => hga.2 e.symm)
    have HM1 : Hid ((((γ.T (klT d q)).map pvT) ++ [Value.int .i64 (q : Int)]).length = m1 ∧ m1 = (γ.T (klT d q)).length + 1 ∧ m1 - 32 = k) := ⟨hm1, hm1T, hk⟩
    clear hm1 hm1T hk
    clear hC1 hC2 hrow hz0 hz1 hz2 hi0 cW1 hga hcc hm1b kq cN hT32
    go_wp2_with (at_builtin; refine wpList_append_run rfl (.tmp 22) (.tmp 24) 39 rfl _ _ _ _ rfl rfl hap ?_)
    clear hlk hap
    refine wp_region_phase (mk := fun u => #[_, _, _, _, _, _, _, _, _, _, _, _, _, _, _, _, _, _, _, _, _, _, _, _, _, _, u 26, u 27, u 28, u 29, u 30, u 31, u 32, u 33, u 34, u 35, u 36]) (G := lookG [(26, .pointer (some ⟨a, 0, none⟩)), (27, .pointer (some ⟨a, 0, none⟩)), (28, .pointer (some ⟨a, 3, none⟩)), (29, .map (some γ.mp)), (30, .int .u32 (K0 : Int)), (31, .slice (some ⟨g, o, none⟩) m1 c), (32, .slice (some ⟨g, o, none⟩) m1 c), (33, .int .i64 (m1 : Int)), (34, .int .i64 ((m1 : Int) - 32)), (35, .int .i64 (k : Int)), (36, .slice (some ⟨g, o + k, none⟩) (m1 - k) (c - k))]) (J := fun _ _ ww => Chg (fun _ => False) W1 ww) [] (fun _ => undef) rfl (by kernel_rfl) 11 _ rfl rfl (by kernel_rfl) (by kernel_rfl) (by kernel_rfl) (by decide) ?_ ?_ ?_ ?_ ?_
    · repeat (refine ⟨⟨_, rfl, fun _ _ => rfl⟩, ?_⟩)
      exact trivial
    · exact fun q u u2 ww _ h => h
    · exact (Chg.refl _ W1).drew
    · refine ⟨?_, ?_, ?_, ?_, ?_, ?_, ?_, ?_, ?_, ?_, ?_, trivial⟩
      · show StepR _ _ _ _ _ _  _ -- 26
        unfold StepR
        intro q u w_ hj hd K hK
        clear hd
        go_simp
        exact hK.out (.pointer (some ⟨a, 0, none⟩)) rfl
      · show StepR _ _ _ _ _ _  _ -- 27
        unfold StepR
        intro q u w_ hj hd K hK
        have h26 : u 26 = .pointer (some ⟨a, 0, none⟩) := hd.get 0 (by kernel_rfl)
        clear hd
        simp only [h26] at hK
        go_simp
        exact hK.out (.pointer (some ⟨a, 0, none⟩)) rfl
      · show StepR _ _ _ _ _ _  _ -- 28
        unfold StepR
        intro q u w_ hj hd K hK
        have h27 : u 27 = .pointer (some ⟨a, 0, none⟩) := hd.get 1 (by kernel_rfl)
        clear hd
        simp only [h27] at hK
        go_simp
        exact hK.out (.pointer (some ⟨a, 3, none⟩)) rfl
      · show StepR _ _ _ _ _ _  _ -- 29
        unfold StepR
        intro q u w_ hj hd K hK
        have h28 : u 28 = .pointer (some ⟨a, 3, none⟩) := hd.get 2 (by kernel_rfl)
        clear hd
        simp only [h28] at hK
        have kq := cell_chg kc3 hj
        go_simp
        exact hK.out _ rfl
      · show StepR _ _ _ _ _ _  _ -- 30
        unfold StepR
        intro q u w_ hj hd K hK
        clear hd
        go_simp
        exact hK.out (.int .u32 (K0 : Int)) rfl
      · show StepR _ _ _ _ _ _  _ -- 31
        unfold StepR
        intro q u w_ hj hd K hK
        clear hd
        go_simp
        exact hK.out (.slice (some ⟨g, o, none⟩) m1 c) rfl
      · show StepR _ _ _ _ _ _  _ -- 32
        unfold StepR
        intro q u w_ hj hd K hK
        clear hd
        go_simp
        exact hK.out (.slice (some ⟨g, o, none⟩) m1 c) rfl
      · show StepR _ _ _ _ _ _  _ -- 33
        unfold StepR
        intro q u w_ hj hd K hK
        have h32 : u 32 = .slice (some ⟨g, o, none⟩) m1 c := hd.get 6 (by kernel_rfl)
        clear hd
        simp only [h32] at hK
        go_simp
        exact hK.out (.int .i64 (m1 : Int)) rfl
      · show StepR _ _ _ _ _ _  _ -- 34
        unfold StepR
        intro q u w_ hj hd K hK
        have h33 : u 33 = .int .i64 (m1 : Int) := hd.get 7 (by kernel_rfl)
        clear hd
        simp only [h33] at hK
        go_simp
        exact hK.out (.int .i64 ((m1 : Int) - 32)) rfl
      · show StepR _ _ _ _ _ _  _ -- 35
        unfold StepR
        intro q u w_ hj hd K hK
        have h34 : u 34 = .int .i64 ((m1 : Int) - 32) := hd.get 8 (by kernel_rfl)
        clear hd
        simp only [h34] at hK
        have hmx := HMX.out w_
        go_simp
        exact hK.out _ rfl
      · show StepR _ _ _ _ _ _  _ -- 36
        unfold StepR
        intro q u w_ hj hd K hK
        have h31 : u 31 = .slice (some ⟨g, o, none⟩) m1 c := hd.get 5 (by kernel_rfl)
        have h35 : u 35 = .int .i64 (k : Int) := hd.get 9 (by kernel_rfl)
        clear hd
        have hcut := run_cutI g o m1 c k w_ HKM.out.1 HKM.out.2
        refine step_run (a := ⟨_, []⟩) (v := .slice (some ⟨g, o + k, none⟩) (m1 - k) (c - k)) ?_ ?_ ?_
        · rfl
        · simp [execOp, Act.eval, h31, h35, hcut, Result.andThen]
        · exact hK.out _ rfl
    · intro u w7 hj hA K hK
      have e29 : u 29 = .map (some γ.mp) := hA.at 29 (by kernel_rfl)
      have e30 : u 30 = .int .u32 (K0 : Int) := hA.at 30 (by kernel_rfl)
      have e36 : u 36 = .slice (some ⟨g, o + k, none⟩) (m1 - k) (c - k) := hA.at 36 (by kernel_rfl)
      have hM7 := HMF.out.keep hj (fun f => f)
      obtain ⟨w8, hup, hM8, hc8⟩ := hM7.put keyedU Try.underlying58 (by have := HFr.out.cnt; unfold maxLen; omega) (key_of HFr.out.dig q) (.slice (some ⟨g, o + k, none⟩) (m1 - k) (c - k))
      rw [hK0] at hup
      have HEX : Hid (∃ γ', FinC γ' w8 B a d n p lo (q + 1) ∧ Fwd gle gfoot γ γ' Wr w8) := by
        obtain ⟨hm1, hm1T, hk⟩ := HM1.out
        have hcut := CutRow.cut (k := k) (by rw [hm1]; exact HC1.out) (by rw [hm1]; omega)
        rw [hm1] at hcut
        have hdrop : (((γ.T (klT d q)).map pvT) ++ [Value.int .i64 (q : Int)]).drop k = (lastN 32 (γ.T (klT d q) ++ [q])).map pvT := by
          unfold lastN
          rw [List.map_drop, List.map_append, List.length_append, show (γ.T (klT d q)).length + [q].length - 32 = k by simp; omega]
          rfl
        rw [hdrop] at hcut
        exact HFr.out.next (by rw [HDL.out]; exact HH3.out) hlo (hcut.keep hj (fun f => f)) (by rw [hlv]; exact HG.out) (HCW.out.trans hj (fun _ f => f.elim)) hM8 hc8
      clear hA hM7 hM8 hc8
      go_simp
      refine hK.out _ _ ?_
      clear hK e29 e30 e36 hup K
      go_wp2
      go_end0
      obtain ⟨γ', h1, h2⟩ := HEX.out
      exact ⟨⟨_, rfl⟩, γ', HFW.out.trans h2, h1⟩
  · have hg1 : decide ((E : Int) < 3) = true := by simp; omega
    have hg1' : decide (E < 3) = true := by simp; omega
    have HH3 : Hid (¬ q + 3 ≤ L) := h3
    clear h3
    go_enter Try.func26, Try.ntmps26
    go_wp2
    refine bodyPost_ret (results_none rfl _ _ _) rfl ?_
    exact ⟨⟨_, rfl⟩, γ, Fwd.new (Chg.refl _ _), HF.out.over (by rw [HDL.out]; exact HH3.out)⟩
end Go.Proofs.Ytkdionoelbiidaa
