/- The program's heap in memory: Pop, Len; all that is asked of it; of no statement by itself. -/
import Derived.Test.YtoeimahlielklaaHg
import Derived.Test.YtoeimahlielklaaHs
namespace Go.Proofs.Ytoeimahlielklaa
open Go.RowKit
open Hp16
set_option linter.unusedVariables false
set_option linter.unusedSimpArgs false
theorem elemPp : Try.prog.elem 25 = 47 := by kernel_rfl
theorem sizePp : (sizeOf 47).run Try.prog = fun w => .ok 2 w := by kernel_rfl
theorem undPp : Try.prog.underlying 25 = some (.slice (Try.prog.elem 25)) := by kernel_rfl
/-- A list of one's own that is cut at its end. -/
theorem own_cut {w : World} {B : Nat} {e : TypeId} {g n cap k : Nat} {l : List Pr} (h : w.ownsRow B e 2 (.slice (some ⟨g, 0, none⟩) n cap) n (prcs l)) (hk : k ≤ n) : w.ownsRow B e 2 (.slice (some ⟨g, 0, none⟩) k cap) k (prcs (l.take k)) := by
  have hl : l.length = n := by have := h.1; rw [prcs_len] at this; omega
  refine ⟨by rw [prcs_len, List.length_take, hl, Nat.min_eq_left hk], ?_⟩
  rcases h.2 with ⟨e0, _⟩ | ⟨g', cap', cur, e0, hb, hg, hc, hm, hs, ht⟩
  · cases e0
  · simp only [Value.slice.injEq, Option.some.injEq, Addr.mk.injEq, true_and, and_true] at e0
    obtain ⟨rfl, rfl⟩ := e0
    refine .inr ⟨g, cap, cur, rfl, hb, hg, by omega, hm, hs, ?_⟩
    rw [← prcs_take, ← ht, List.take_take, Nat.min_eq_left (Nat.mul_le_mul_right _ hk)]
set_option maxHeartbeats 4000000 in
theorem pop_none (B a : Nat) (ff v : Value) (w : World) (h : Hl w B a ff v []) : Calls Try.prog 11 #[.pointer (some ⟨a, 0, none⟩)] w fun e w' => e = .returned (.tuple #[.agg #[.int .i64 0, .int .i64 0], .bool false]) ∧ Chg (fun _ => False) w w' := by
  obtain ⟨ad, c, hv⟩ := formP h.own
  have cA := chg_one w (.cells #[.int .i64 0, .int .i64 0] 47)
  have k1 := cell1 (h.new cA).blk
  rw [hv] at k1
  simp only [List.length_nil] at k1
  have hb := heap_alloc_last w (.cells #[.int .i64 0, .int .i64 0] 47)
  clear h
  go_enter Try.func11, Try.ntmps11
  go_wp2
  refine bodyPost_ret (v := .tuple #[.agg #[.int .i64 0, .int .i64 0], .bool false]) (by simp [results, Try.results11, go_sem]) rfl ?_
  exact ⟨rfl, ((Chg.refl _ w).alloc _).alloc _⟩
set_option maxHeartbeats 8000000 in
set_option maxRecDepth 100000 in
theorem pop_any (B a g n c : Nat) (l : List Pr) (w : World) (h : Hl w B a chF (.slice (some ⟨g, 0, none⟩) n c) l) (hl : l.length = n) (h0 : 0 < n) (hn : n ≤ 8796093022208) (ht : Tre l) : Calls Try.prog 11 #[.pointer (some ⟨a, 0, none⟩)] w fun e w' => e = .returned (.tuple #[.agg #[.int .i64 (nth l 0).1, .int .i64 (nth l 0).2], .bool true]) ∧ ∃ l', Hl w' B a chF (.slice (some ⟨g, 0, none⟩) (n - 1) c) l' ∧ l'.Perm (cutp l) ∧ Tre l' ∧ Chg (fun z => z = a ∨ z = g) w w' := by
  have hni : (n : Int) ≤ 8796093022208 := by omega
  have cA := chg_one w (.cells #[.int .i64 0, .int .i64 0] 47)
  have hHA := h.new cA
  have k1 := cell1 hHA.blk
  have hO : (w.alloc (.cells #[.int .i64 0, .int .i64 0] 47)).ownsRow B 47 2 (.slice (some ⟨g, 0, none⟩) n c) n (prcs l) := by have := hHA.own; rw [hl] at this; exact this
  obtain ⟨p, hp⟩ : ∃ p, nth l 0 = p := ⟨_, rfl⟩
  obtain ⟨c00, c01⟩ := (put2 hO hl 0 h0 p).1
  rw [hp] at c00 c01
  simp only [Nat.zero_mul, Nat.zero_add] at c00 c01
  have hd0 : ((n : Int) == 0) = false := by simp; omega
  obtain ⟨m, hm⟩ : ∃ m, n = m + 1 := ⟨n - 1, by omega⟩
  have HH : Hid (Hl (w.alloc (.cells #[.int .i64 0, .int .i64 0] 47)) B a chF (.slice (some ⟨g, 0, none⟩) n c) l ∧ l.length = n ∧ Tre l) := ⟨hHA, hl, ht⟩
  have HCA : Hid (Chg (fun _ => False) w (w.alloc (.cells #[.int .i64 0, .int .i64 0] 47))) := cA
  have HP : Hid (nth l 0 = p) := hp
  have hR := heap_alloc_last w (.cells #[.int .i64 0, .int .i64 0] 47)
  have hnm : ((n : Int) - 1) = (m : Int) := by omega
  rw [hp]
  have HM : Hid (n = m + 1) := hm
  have HHL : Hid (a < w.heap.size ∧ g < w.heap.size) := ⟨(h.lt (.inl rfl)).2, (h.lt (.inr rfl)).2⟩
  clear h hl ht cA hHA hO hp hm
  go_enter Try.func11, Try.ntmps11
  go_upto_region 6 with fail
  have cW : Chg (fun _ => False) (w.alloc (.cells #[.int .i64 0, .int .i64 0] 47)) ((w.alloc (.cells #[.int .i64 0, .int .i64 0] 47)).alloc (.cells #[.int .i64 p.1, .int .i64 p.2] 47)) := chg_one _ _
  have hL := heap_alloc_last (w.alloc (.cells #[.int .i64 0, .int .i64 0] 47)) (.cells #[.int .i64 p.1, .int .i64 p.2] 47)
  rw [World.size_alloc] at hL
  have hR1 := blk_keep hR cW (fun f => f)
  have HHW : Hid _ := HH.out.1.new cW
  have HCW : Hid (Chg (fun _ => False) w ((w.alloc (.cells #[.int .i64 0, .int .i64 0] 47)).alloc (.cells #[.int .i64 p.1, .int .i64 p.2] 47))) := chg_then HCA.out cW
  have HSZ : Hid (w.heap.size = w.heap.size) := rfl
  clear k1 c00 c01 hR cW HCA
  generalize (w.alloc (.cells #[.int .i64 0, .int .i64 0] 47)).alloc (.cells #[.int .i64 p.1, .int .i64 p.2] 47) = W at *
  have HRL : Hid (W.heap[w.heap.size]? = some (.cells #[.int .i64 0, .int .i64 0] 47 (0, 0)) ∧ W.heap[w.heap.size + 1]? = some (.cells #[.int .i64 p.1, .int .i64 p.2] 47 (0, 0))) := ⟨hR1, hL⟩
  clear hR1 hL
  have hO : W.ownsRow B 47 2 (.slice (some ⟨g, 0, none⟩) n c) n (prcs l) := by have := HHW.out.own; rw [HH.out.2.1] at this; exact this
  have k1 := cell1 HHW.out.blk
  have hmn : m < n := by have := HM.out; omega
  obtain ⟨pl, hpl⟩ : ∃ x, nth l m = x := ⟨_, rfl⟩
  obtain ⟨c10, c11⟩ := (put2 hO HH.out.2.1 m hmn p).1
  rw [hpl] at c10 c11
  have HPL : Hid (nth l m = pl) := hpl
  clear hO hpl
  refine wp_region_last (mk := fun u => #[_, _, _, _, _, _, _, _, _, _, _, _, _, _, _, _, _, _, _, _, _, _, _, _, _, _, u 26, u 27, u 28, u 29, u 30, u 31, u 32, u 33, u 34, u 35, u 36, u 37, _, _, _, _, _, _, _, _, _, _, _, _]) (F := fun slot vv ww => (look [(26, .val (.pointer (some ⟨a, 0, none⟩))), (27, .val (.pointer (some ⟨a, 0, none⟩))), (28, .val (.pointer (some ⟨a, 1, none⟩))), (29, .val (.slice (some ⟨g, 0, none⟩) n c)), (30, .val (.pointer (some ⟨a, 0, none⟩))), (31, .val (.pointer (some ⟨a, 0, none⟩))), (32, .val (.pointer (some ⟨a, 1, none⟩))), (33, .val (.slice (some ⟨g, 0, none⟩) n c)), (34, .val (.int .i64 (m : Int))), (35, .val (.pointer (some ⟨g, m * 2, none⟩))), (36, .val (.agg #[.int .i64 pl.1, .int .i64 pl.2])), (37, .val (.pointer (some ⟨g, 0, none⟩)))] slot).holds vv ww) (fun _ => undef) rfl (by kernel_rfl) 12 _ rfl rfl (by kernel_rfl) ?_ (fun _ v w w' hc h => Fact.stays _ v w w' hc h) ?_ ?_
  · repeat (refine ⟨⟨_, rfl, fun _ _ => rfl⟩, ?_⟩)
    exact trivial
  · refine ⟨?_, ?_, ?_, ?_, ?_, ?_, ?_, ?_, ?_, ?_, ?_, ?_, trivial⟩
    · intro u w_ hc hd K hK -- 26
      clear hd
      go_simp
      exact hK.out (.pointer (some ⟨a, 0, none⟩)) w_ (Chg.refl _ _) rfl
    · intro u w_ hc hd K hK -- 27
      have h26 : (Fact.val (.pointer (some ⟨a, 0, none⟩))).holds (u 26) w_ := hd.get 0 (by kernel_rfl)
      simp only [Fact.holds] at h26
      clear hd
      simp only [h26] at hK
      go_simp
      exact hK.out (.pointer (some ⟨a, 0, none⟩)) w_ (Chg.refl _ _) rfl
    · intro u w_ hc hd K hK -- 28
      have h27 : (Fact.val (.pointer (some ⟨a, 0, none⟩))).holds (u 27) w_ := hd.get 1 (by kernel_rfl)
      simp only [Fact.holds] at h27
      clear hd
      simp only [h27] at hK
      go_simp
      exact hK.out (.pointer (some ⟨a, 1, none⟩)) w_ (Chg.refl _ _) rfl
    · intro u w_ hc hd K hK -- 29
      have h28 : (Fact.val (.pointer (some ⟨a, 1, none⟩))).holds (u 28) w_ := hd.get 2 (by kernel_rfl)
      simp only [Fact.holds] at h28
      clear hd
      simp only [h28] at hK
      have x0 := cell_chg k1 hc
      go_simp
      exact hK.out _ w_ (Chg.refl _ _) rfl
    · intro u w_ hc hd K hK -- 30
      clear hd
      go_simp
      exact hK.out (.pointer (some ⟨a, 0, none⟩)) w_ (Chg.refl _ _) rfl
    · intro u w_ hc hd K hK -- 31
      have h30 : (Fact.val (.pointer (some ⟨a, 0, none⟩))).holds (u 30) w_ := hd.get 4 (by kernel_rfl)
      simp only [Fact.holds] at h30
      clear hd
      simp only [h30] at hK
      go_simp
      exact hK.out (.pointer (some ⟨a, 0, none⟩)) w_ (Chg.refl _ _) rfl
    · intro u w_ hc hd K hK -- 32
      have h31 : (Fact.val (.pointer (some ⟨a, 0, none⟩))).holds (u 31) w_ := hd.get 5 (by kernel_rfl)
      simp only [Fact.holds] at h31
      clear hd
      simp only [h31] at hK
      go_simp
      exact hK.out (.pointer (some ⟨a, 1, none⟩)) w_ (Chg.refl _ _) rfl
    · intro u w_ hc hd K hK -- 33
      have h32 : (Fact.val (.pointer (some ⟨a, 1, none⟩))).holds (u 32) w_ := hd.get 6 (by kernel_rfl)
      simp only [Fact.holds] at h32
      clear hd
      simp only [h32] at hK
      have x0 := cell_chg k1 hc
      go_simp
      exact hK.out _ w_ (Chg.refl _ _) rfl
    · intro u w_ hc hd K hK -- 34
      clear hd
      go_simp
      exact hK.out (.int .i64 (m : Int)) w_ (Chg.refl _ _) rfl
    · intro u w_ hc hd K hK -- 35
      have h33 : (Fact.val (.slice (some ⟨g, 0, none⟩) n c)).holds (u 33) w_ := hd.get 7 (by kernel_rfl)
      simp only [Fact.holds] at h33
      have h34 : (Fact.val (.int .i64 (m : Int))).holds (u 34) w_ := hd.get 8 (by kernel_rfl)
      simp only [Fact.holds] at h34
      clear hd
      simp only [h33, h34] at hK
      go_simp
      exact hK.out (.pointer (some ⟨g, m * 2, none⟩)) w_ (Chg.refl _ _) rfl
    · intro u w_ hc hd K hK -- 36
      have h35 : (Fact.val (.pointer (some ⟨g, m * 2, none⟩))).holds (u 35) w_ := hd.get 9 (by kernel_rfl)
      simp only [Fact.holds] at h35
      clear hd
      simp only [h35] at hK
      have x0 := cell_chg c10 hc
      have x1 := cell_chg c11 hc
      go_simp
      exact hK.out _ w_ (Chg.refl _ _) rfl
    · intro u w_ hc hd K hK -- 37
      have h29 : (Fact.val (.slice (some ⟨g, 0, none⟩) n c)).holds (u 29) w_ := hd.get 3 (by kernel_rfl)
      simp only [Fact.holds] at h29
      clear hd
      simp only [h29] at hK
      go_simp
      exact hK.out (.pointer (some ⟨g, 0, none⟩)) w_ (Chg.refl _ _) rfl
  · intro u w7 hc hA K hK
    have h37 : (Fact.val (.pointer (some ⟨g, 0, none⟩))).holds (u 37) w7 := hA.at 37 (by kernel_rfl)
    have h36 : (Fact.val (.agg #[.int .i64 pl.1, .int .i64 pl.2])).holds (u 36) w7 := hA.at 36 (by kernel_rfl)
    simp only [Fact.holds] at h37 h36
    have HC7 : Hid (Chg (fun _ => False) W w7) := hc
    have HH7 : Hid _ := HHW.out.new hc
    have hO7 : w7.ownsRow B 47 2 (.slice (some ⟨g, 0, none⟩) n c) n (prcs l) := by have := HH7.out.own; rw [HH.out.2.1] at this; exact this
    obtain ⟨⟨d0, d1⟩, f0, x0, y0, hO8, e8⟩ := put2 hO7 HH.out.2.1 0 h0 pl
    simp only [Nat.zero_mul, Nat.zero_add] at d0 d1 f0 x0 y0 hO8 e8
    clear hA hc k1 c10 c11 hO7
    simp only [h37, h36] at hK ⊢
    go_simp
    refine hK.out _ _ ?_
    have HO8 : Hid _ := hO8
    have HC8 : Hid _ := e8
    clear hK h37 h36 d0 d1 f0 x0 y0 hO8 e8
    have hga : g ≠ a := fun e => HHW.out.ne (by subst e; rfl)
    have HB8 : Hid _ := blk_keep HH7.out.blk HC8.out (fun e => hga e.symm)
    generalize (w7.setCell ⟨g, 0, none⟩ (.int .i64 pl.1)).setCell ⟨g, 1, none⟩ (.int .i64 pl.2) = W8 at *
    have k1 := cell1 HB8.out
    have f1 := free1 HB8.out
    have hmc : m ≤ c := by
      rcases HO8.out.2 with ⟨e0, e1⟩ | ⟨g', cap, cur, e0, _, _, h9, _⟩
      · cases e0
      · simp only [Value.slice.injEq] at e0
        omega
    have hcut1 : ∀ ww, (Instr.sliceAt 25 (.slice (some ⟨g, 0, none⟩) n c) none (some (.int .i64 (m : Int))) none).run Try.prog ww = .ok (.slice (some ⟨g, 0, none⟩) m c) ww := fun ww => run_cutZ_hi undPp elemPp sizePp _ n c m ww hmc
    have c9 : Chg (fun z => z = a) W8 (W8.setCell ⟨a, 1, none⟩ (.slice (some ⟨g, 0, none⟩) m c)) := Chg.setCell (S := fun z => z = a) (Chg.refl _ W8) (p := ⟨a, 1, none⟩) (.inl rfl) _
    have hcl : cutp l = (l.set 0 pl).take m := by unfold cutp; rw [HH.out.2.1, show n - 1 = m by have := HM.out; omega, HPL.out]
    have HE : Hid (Hl (W8.setCell ⟨a, 1, none⟩ (.slice (some ⟨g, 0, none⟩) m c)) B a chF (.slice (some ⟨g, 0, none⟩) m c) (cutp l)) := by
      refine ⟨HHW.out.ha, blk_set1 HB8.out, ?_⟩
      rw [cutp_len, HH.out.2.1, show n - 1 = m by have := HM.out; omega, hcl]
      exact owns_keep (own_cut HO8.out (by omega)) c9 (fun z e f => hga (by simp [Value.ownBlock] at e; rw [e]; exact f))
    have HCX : Hid (Chg (fun z => z = a ∨ z = g) W (W8.setCell ⟨a, 1, none⟩ (.slice (some ⟨g, 0, none⟩) m c))) := ((HC7.out.mono (fun _ f => f.elim)).trans HC8.out (fun z f => .inl (.inr f))).trans c9 (fun z f => .inl (.inl f))
    have HX : Hid _ := sink_any B a g m c (cutp l) _ HE.out (by rw [cutp_len, HH.out.2.1]; have := HM.out; omega) (by omega) (dn_start HH.out.2.2)
    clear hmc c9 hcl
    go_wp2_with fail
    refine Calls.mono HX.out ?_
    rintro z w9 ⟨rfl, l', q1, q2, q3, q4⟩
    have HC9 : Hid (Chg (fun z => z = a ∨ z = g) W w9) := HCX.out.trans q4 (fun z f => .inl (.inr f))
    have HQ : Hid (Hl w9 B a chF (.slice (some ⟨g, 0, none⟩) (n - 1) c) l' ∧ l'.Perm (cutp l) ∧ Tre l') := ⟨by rw [show n - 1 = m by have := HM.out; omega]; exact q1, q2, q3⟩
    have hof : ∀ z, w.heap.size ≤ z → ¬ (z = a ∨ z = g) := fun z hz f => by
      have h1 := HHL.out
      rcases f with f | f
      · have := h1.1; omega
      · have := h1.2; omega
    have hb1 := blk_keep HRL.out.1 HC9.out (hof _ (by omega))
    have hb2 := blk_keep HRL.out.2 HC9.out (hof _ (by omega))
    have n0 := cell0 hb2
    have n1 := cell1 hb2
    have HBR : Hid (w9.heap[w.heap.size]? = some (.cells #[.int .i64 0, .int .i64 0] 47 (0, 0))) := hb1
    have r0 := cell0 hb1
    have s0 := free0 hb1
    have hb3 := blk_set0 (u := .int .i64 p.1) hb1
    have r1 := cell1 hb3
    have s1 := free1 hb3
    have hb4 := blk_set1 (u := .int .i64 p.2) hb3
    have HC10 : Hid (Chg (fun z => w.heap.size ≤ z) w9 ((w9.setCell ⟨w.heap.size, 0, none⟩ (.int .i64 p.1)).setCell ⟨w.heap.size, 1, none⟩ (.int .i64 p.2))) := ((Chg.refl (fun z => w.heap.size ≤ z) w9).setCell (p := ⟨w.heap.size, 0, none⟩) (.inl (Nat.le_refl _)) _).setCell (p := ⟨w.heap.size, 1, none⟩) (.inl (Nat.le_refl _)) _
    have HB4 : Hid _ := hb4
    have HOF : Hid (∀ z, w.heap.size ≤ z → ¬ (z = a ∨ z = g)) := hof
    clear q1 q2 q3 q4 HX hof hb1 hb2 hb3 hb4
    go_wp2
    generalize (w9.setCell ⟨w.heap.size, 0, none⟩ (.int .i64 p.1)).setCell ⟨w.heap.size, 1, none⟩ (.int .i64 p.2) = W10 at *
    have z0 := cell0 HB4.out
    have z1 := cell1 HB4.out
    refine bodyPost_ret (v := .tuple #[.agg #[.int .i64 p.1, .int .i64 p.2], .bool true]) (by simp [results, Try.results11, go_sem, z0, z1]) rfl ?_
    refine ⟨rfl, l', HQ.out.1.keep HC10.out (fun z f k => ?_), HQ.out.2.1, HQ.out.2.2, ((HCW.out.mono (fun _ f => f.elim)).trans HC9.out (fun z f => .inl f)).trans HC10.out (fun z f => .inr f)⟩
    refine HOF.out z k ?_
    rcases f with f | f
    · exact .inl f
    · simp [Value.ownBlock] at f
      exact .inr f.symm
set_option maxHeartbeats 4000000 in
theorem hpop_none (B a : Nat) (ff v : Value) (w : World) (h : Hl w B a ff v []) : Calls Try.prog 7 #[.pointer (some ⟨a, 0, none⟩)] w fun e w' => e = .returned (.tuple #[.int .i64 0, .int .i64 0, .bool false]) ∧ Chg (fun _ => False) w w' := by
  have HX : Hid _ := pop_none B a ff v w h
  clear h
  go_enter Try.func7, Try.ntmps7
  go_wp2_with fail
  refine Calls.mono HX.out ?_
  rintro z w1 ⟨rfl, c1⟩
  have HC : Hid (Chg (fun _ => False) w (w1.alloc (.cells #[.int .i64 0, .int .i64 0] 47))) := c1.alloc _
  have m0 := cell0 (heap_alloc_last w1 (.cells #[.int .i64 0, .int .i64 0] 47))
  have m1 := cell1 (heap_alloc_last w1 (.cells #[.int .i64 0, .int .i64 0] 47))
  clear c1 HX
  go_wp2_with fail
  go_quiet (fail)
  go_wp2
  go_ret3
  exact ⟨rfl, chg_then HC.out (chg_drewN _ _)⟩
set_option maxHeartbeats 4000000 in
theorem hpop_any (B a g n c : Nat) (l : List Pr) (w : World) (h : Hl w B a chF (.slice (some ⟨g, 0, none⟩) n c) l) (hl : l.length = n) (h0 : 0 < n) (hn : n ≤ 8796093022208) (ht : Tre l) : Calls Try.prog 7 #[.pointer (some ⟨a, 0, none⟩)] w fun e w' => e = .returned (.tuple #[.int .i64 (nth l 0).1, .int .i64 (nth l 0).2, .bool true]) ∧ ∃ l', Hl w' B a chF (.slice (some ⟨g, 0, none⟩) (n - 1) c) l' ∧ l'.Perm (cutp l) ∧ Tre l' ∧ Chg (fun z => z = a ∨ z = g) w w' := by
  have HX : Hid _ := pop_any B a g n c l w h hl h0 hn ht
  obtain ⟨p, hp⟩ : ∃ p, nth l 0 = p := ⟨_, rfl⟩
  rw [hp] at HX ⊢
  clear h hl h0 hn ht hp
  go_enter Try.func7, Try.ntmps7
  go_wp2_with fail
  refine Calls.mono HX.out ?_
  rintro z w1 ⟨rfl, l', q1, q2, q3, q4⟩
  have cA := chg_one w1 (.cells #[.int .i64 p.1, .int .i64 p.2] 47)
  have HQ : Hid (∀ k, ∃ l', Hl ((w1.alloc (.cells #[.int .i64 p.1, .int .i64 p.2] 47)).drewN k) B a chF (.slice (some ⟨g, 0, none⟩) (n - 1) c) l' ∧ l'.Perm (cutp l) ∧ Tre l' ∧ Chg (fun z => z = a ∨ z = g) w ((w1.alloc (.cells #[.int .i64 p.1, .int .i64 p.2] 47)).drewN k)) := fun k => ⟨l', (q1.new cA).new (chg_drewN _ k), q2, q3, (q4.trans cA (fun _ f => f.elim)).trans (chg_drewN _ k) (fun _ f => f.elim)⟩
  have m0 := cell0 (heap_alloc_last w1 (.cells #[.int .i64 p.1, .int .i64 p.2] 47))
  have m1 := cell1 (heap_alloc_last w1 (.cells #[.int .i64 p.1, .int .i64 p.2] 47))
  clear q1 q2 q3 q4 cA HX
  go_wp2_with fail
  go_quiet (fail)
  go_wp2
  go_ret3
  exact ⟨rfl, HQ.out _⟩
theorem hlen_any (B a : Nat) (ff v : Value) (l : List Pr) (w : World) (h : Hl w B a ff v l) : Calls Try.prog 6 #[.pointer (some ⟨a, 0, none⟩)] w fun e w' => e = .returned (.int .i64 (l.length : Int)) ∧ Chg (fun _ => False) w w' := by
  obtain ⟨ad, c, hv⟩ := formP h.own
  have k1 := cell1 h.blk
  rw [hv] at k1
  clear h
  go_enter Try.func6, Try.ntmps6
  go_wp2
  go_ret
  exact ⟨rfl, Chg.refl _ _⟩
/-- A heap of the program's, its pairs in order. -/
def HpL (w : World) (B a : Nat) (F : Nat → Prop) (L : List Pr) : Prop := ∃ ff v l, Hl w B a ff v l ∧ (l ≠ [] → ff = chF) ∧ l.Perm L ∧ Srt L ∧ Tre l ∧ ∀ z, F z ↔ Foot a v z
theorem heapSpec : HeapSpec HpL where
  zero w := ⟨.nilFunc, .slice none 0 0, [], ⟨Nat.le_refl _, heap_alloc_last _ _, World.ownsRow_nil _ _ _ _⟩, fun e => absurd rfl e, List.Perm.refl _, List.Pairwise.nil, (fun k _ hk => by simp at hk), fun z => ⟨fun e => .inl e, fun f => by
    rcases f with f | f
    · exact f
    · simp [Value.ownBlock] at f⟩⟩
  keep := fun ⟨ff, v, l, h, h1, h2, h3, h4, h5⟩ hc hS => ⟨ff, v, l, h.keep hc (fun z f => hS z ((h5 z).2 f)), h1, h2, h3, h4, h5⟩
  lt := fun ⟨ff, v, l, h, h1, h2, h3, h4, h5⟩ z f => h.lt ((h5 z).1 f)
  ty := fun ⟨ff, v, l, h, h1, h2, h3, h4, h5⟩ z f => by
    rcases (h5 z).1 f with k | k
    · subst k; exact ⟨_, _, h.blk, by decide, by decide, by decide⟩
    · obtain ⟨cur, hc⟩ := owns_blk h.own k
      exact ⟨_, _, hc, by decide, by decide, by decide⟩
  down := fun ⟨ff, v, l, h, h1, h2, h3, h4, h5⟩ hB => ⟨ff, v, l, ⟨Nat.le_trans hB h.ha, h.blk, owns_base h.own hB⟩, h1, h2, h3, h4, h5⟩
  srt := fun ⟨ff, v, l, h, h1, h2, h3, h4, h5⟩ => h3
  push := fun B a F L x y w ⟨ff, v, l, h, h1, h2, h3, h4, h5⟩ hB hn => by
    refine Calls.mono (hpush_any B a ff v l x y w h h4 hB (by rw [h2.length_eq]; exact hn)) ?_
    rintro e w' ⟨rfl, v', l', q1, q2, q3, q4, q5⟩
    refine ⟨rfl, fun z => Foot a v' z, ⟨chF, v', l', q1, fun _ => rfl, ?_, ins_srt _ _ h3, q3, fun z => Iff.rfl⟩, q4.mono (fun z f => .inl ((h5 z).2 f)), fun z f => ?_⟩
    · exact (q2.trans (List.perm_append_comm.trans (h2.cons _))).trans (ins_perm (x, y) L).symm
    · rcases q5.foot a z f with k | k
      · exact .inl ((h5 z).2 k)
      · exact .inr k
  popN := fun B a F w ⟨ff, v, l, h, h1, h2, h3, h4, h5⟩ hB => by
    obtain rfl : l = [] := List.Perm.eq_nil h2
    refine Calls.mono (hpop_none B a ff v w h) ?_
    rintro e w' ⟨rfl, c⟩
    exact ⟨rfl, F, ⟨ff, v, [], h.new c, h1, h2, h3, h4, h5⟩, c.mono (fun _ f => f.elim), fun z f => .inl f⟩
  pop := fun B a F x t w ⟨ff, v, l, h, h1, h2, h3, h4, h5⟩ hB hn => by
    have hl0 : 0 < l.length := by rw [h2.length_eq]; simp
    have hff : ff = chF := h1 (by intro e; rw [e] at hl0; simp at hl0)
    subst hff
    obtain ⟨g, c, hv⟩ : ∃ g c, v = .slice (some ⟨g, 0, none⟩) l.length c := by
      rcases h.own.2 with ⟨_, e1⟩ | ⟨g, cap, cur, e0, _⟩
      · omega
      · exact ⟨g, cap, e0⟩
    subst hv
    obtain ⟨e1, e2⟩ := pop_perm h4 h2 h3
    refine Calls.mono (hpop_any B a g l.length c l w h rfl hl0 (by rw [h2.length_eq]; simp; omega) h4) ?_
    rintro e w' ⟨rfl, l', q1, q2, q3, q4⟩
    refine ⟨by rw [e1], F, ⟨chF, _, l', q1, fun _ => rfl, q2.trans e2, (List.pairwise_cons.1 h3).2, q3, fun z => ?_⟩, q4.mono (fun z f => .inl ((h5 z).2 ?_)), fun z f => .inl f⟩
    · rw [h5 z]
      constructor
      · intro f; exact f.imp (fun k => k) (fun k => by simpa [Value.ownBlock] using k)
      · intro f; exact f.imp (fun k => k) (fun k => by simpa [Value.ownBlock] using k)
    · rcases f with f | f
      · exact .inl f
      · exact .inr (by simp [Value.ownBlock, f])
  len := fun B a F L w ⟨ff, v, l, h, h1, h2, h3, h4, h5⟩ hn => by
    refine Calls.mono (hlen_any B a ff v l w h) ?_
    rintro e w' ⟨rfl, c⟩
    exact ⟨by rw [h2.length_eq], c⟩
end Go.Proofs.Ytoeimahlielklaa
