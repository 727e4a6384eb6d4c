/- The finder's Matches and Best; all that is asked of the finder, together; of no statement by itself. -/
import Derived.Test.YtkdionoelbiidaaLj
namespace Go.Proofs.Ytkdionoelbiidaa
open Go.RowKit
set_option linter.unusedVariables false
set_option linter.unusedSimpArgs false
attribute [local go_sem] Oper.semAt_some

/-- The iterator's value: the function literal over two boxes. -/
def SqT (w : World) (v : Value) (sf : Nat → Prop) (a : Nat) (most : Int) : Prop := ∃ b1 b2, v = .func (.func 27) #[] #[.pointer (some ⟨b1, 0, none⟩), .pointer (some ⟨b2, 0, none⟩)] ∧ w.heap[b1]? = some (.cells #[.pointer (some ⟨a, 0, none⟩)] 23 (0, 0)) ∧ w.heap[b2]? = some (.cells #[.int .i64 most] 3 (0, 0)) ∧ (∀ z, sf z ↔ z = b1 ∨ z = b2) ∧ I64 most
theorem mats_any (a : Nat) (most : Int) (w : World) (hm : I64 most) : Calls Try.prog 17 #[.pointer (some ⟨a, 0, none⟩), .int .i64 most] w fun e w' => ∃ v sf, e = .returned v ∧ SqT w' v sf a most ∧ Chg (fun _ => False) w w' ∧ ∀ z, sf z → w.heap.size ≤ z := by
  go_enter Try.func17, Try.ntmps17
  go_wp2
  go_ret
  refine ⟨_, fun z => z = w.heap.size ∨ z = w.heap.size + 1, rfl, ⟨w.heap.size, w.heap.size + 1, rfl, ?_, ?_, fun z => Iff.rfl, hm⟩, ((Chg.refl _ w).alloc _).alloc _, fun z e => by omega⟩
  · exact (Below.heap_alloc _ _ _ (by simp)).trans (heap_alloc_last w _)
  · have := heap_alloc_last (w.alloc (.cells #[.pointer (some ⟨a, 0, none⟩)] 23)) (.cells #[.int .i64 most] 3)
    rwa [World.size_alloc] at this
theorem iter_any {w : World} {v : Value} {sf : Nat → Prop} {a : Nat} {most : Int} (h : SqT w v sf a most) : ∃ gf lb, v = .func (.func gf) #[] lb ∧ (∀ args w, (callFunc gf args).run Try.prog w = .ok (.enter gf args) w) ∧
    ∀ (γ : Gh) (B : Nat) (d : List Nat) (n p : Nat), Iter Try.prog gf lb ((mat d n p most).map mval) (fun W => Fi γ W B a d n p ∧ SqT W v sf a most) (fun W => ∃ γ' p', gle γ γ' ∧ Fi γ' W B a d n p' ∧ SqT W v sf a most) := by
  obtain ⟨b1, b2, h0, h1, h2, h3, h4⟩ := h
  refine ⟨27, #[.pointer (some ⟨b1, 0, none⟩), .pointer (some ⟨b2, 0, none⟩)], h0, fun args w => by kernel_rfl, ?_⟩
  intro γ B d n p l J Jx W N0 hJ hJx hmore hs hl hY hJ0
  refine iter_go b1 b2 a most h4 γ B d n p l J Jx W N0 hJ hJx hmore (fun N W h => (hs N W h).1) (fun N k W h => ?_) hY hJ0
  obtain ⟨γ', p', e1, e2, c1, c2, g0, g1, g2, g3, g4⟩ := hl N k W h
  rw [h0] at g0
  simp only [Value.func.injEq, true_and] at g0
  have g5 := congrArg Array.toList g0
  simp only [List.cons.injEq, Value.pointer.injEq, Option.some.injEq, Addr.mk.injEq, and_true] at g5
  obtain ⟨rfl, rfl⟩ := g5
  exact ⟨γ', p', e1, e2, g1, g2⟩
theorem SqT.keep {w w' : World} {v : Value} {sf : Nat → Prop} {a : Nat} {most : Int} {S : Nat → Prop} (h : SqT w v sf a most) (hc : Chg S w w') (hS : ∀ z, sf z → ¬ S z) : SqT w' v sf a most := by
  obtain ⟨b1, b2, h0, h1, h2, h3, h4⟩ := h
  exact ⟨b1, b2, h0, blk_keep h1 hc (hS b1 ((h3 b1).2 (.inl rfl))), blk_keep h2 hc (hS b2 ((h3 b2).2 (.inr rfl))), h3, h4⟩
theorem SqT.turn {w w' : World} {v : Value} {sf : Nat → Prop} {a : Nat} {most : Int} {B0 : Nat} (h : SqT w v sf a most) (hc : Turn B0 w w') : SqT w' v sf a most := by
  obtain ⟨b1, b2, h0, h1, h2, h3, h4⟩ := h
  exact ⟨b1, b2, h0, hc.cells h1, hc.cells h2, h3, h4⟩
structure BestI (w : World) (sv : Value) (sf : Nat → Prop) (a : Nat) (most R : Int) (ms : List (Nat × Nat)) (k : Nat) (W : World) : Prop where
  res : W.heap[w.heap.size]? = some (.cells #[.int .i64 0, .int .i64 0] 30 (0, 0))
  box : W.heap[w.heap.size + 1]? = some (.cells #[.int .i64 ((bestM (ms.take k)).1 : Int), .int .i64 ((bestM (ms.take k)).2 : Int)] 30 (0, 0))
  rb : W.heap[w.heap.size + 1 + 1]? = some (.cells #[.int .i64 R] 3 (0, 0))
  chg : Chg (fun _ => False) w W
  sq : SqT W sv sf a most
theorem BestI.turn {w : World} {sv : Value} {sf : Nat → Prop} {a : Nat} {most R : Int} {ms : List (Nat × Nat)} {k : Nat} {W W' : World} {B0 : Nat} (h : BestI w sv sf a most R ms k W) (hB : w.heap.size ≤ B0) (hc : Turn B0 W W') : BestI w sv sf a most R ms k W' := ⟨hc.cells h.res, hc.cells h.box, hc.cells h.rb, h.chg.trans hc (fun z f => .inr (Nat.le_trans hB f.1)), h.sq.turn hc⟩
theorem cf2 {w : World} {a : Nat} {x y : Value} {t : TypeId} (h : w.heap[a]? = some (.cells #[x, y] t (0, 0))) : w.cell? ⟨a, 0, none⟩ = some x ∧ w.cell? ⟨a, 1, none⟩ = some y ∧ w.frozen? ⟨a, 0, none⟩ = false ∧ w.frozen? ⟨a, 1, none⟩ = false := ⟨by simp [World.cell?, h], by simp [World.cell?, h], by simp [World.frozen?, h], by simp [World.frozen?, h]⟩
set_option maxHeartbeats 4000000 in
set_option maxRecDepth 100000 in
theorem best_any (γ : Gh) (B a : Nat) (d : List Nat) (n p : Nat) (most : Int) (w : World) (h : Fi γ w B a d n p) (hm : I64 most) : Calls Try.prog 11 #[.pointer (some ⟨a, 0, none⟩), .int .i64 most] w fun e w' => e = .returned (mval (bestM (mat d n p most))) ∧ Chg (fun _ => False) w w' := by
  have HM : Hid (∀ w1, Calls Try.prog 17 #[.pointer (some ⟨a, 0, none⟩), .int .i64 most] w1 fun e w' => ∃ v sf, e = .returned v ∧ SqT w' v sf a most ∧ Chg (fun _ => False) w1 w' ∧ ∀ z, sf z → w1.heap.size ≤ z) := fun w1 => mats_any a most w1 hm
  have HF : Hid (Fi γ w B a d n p) := h
  obtain ⟨R, hR⟩ : ∃ R, min (min most 273) ((d.length - p : Nat) : Int) = R := ⟨_, rfl⟩
  have HRE : Hid (∀ w1, Chg (fun _ => False) w w1 → Calls Try.prog 24 #[.pointer (some ⟨a, 0, none⟩), .int .i64 most] w1 fun e w' => e = .returned (.int .i64 R) ∧ ∃ k, w' = w1.drewN k) := fun w1 hc => by
    have := reach_q a γ.da d.length γ.dc p _ _ most w1 hm (h.keep hc (fun _ _ f => f)).blk' h.num.2.2.1 h.num.2.2.2
    rw [hR] at this
    exact this
  obtain ⟨ms, hms⟩ : ∃ ms, mat d n p most = ms := ⟨_, rfl⟩
  have HMS : Hid (mat d n p most = ms) := hms
  obtain ⟨r, hr⟩ : ∃ r, rch d p most = r := ⟨_, rfl⟩
  have HRV : Hid (ms ≠ [] → R = (r : Int)) := fun hne => by
    rw [← hR, ← hr]
    refine rch_int ?_
    by_cases h3 : 3 ≤ rch d p most
    · exact h3
    · exact absurd (hms ▸ mat_none (by omega)) hne
  have HB3 : Hid (∀ m ∈ ms, m.1 ≤ r) := fun m hm => by rw [← hms] at hm; rw [← hr]; exact mat_rch hm
  rw [hms]
  clear h hms hr hR
  refine callsIn_wide (n := 0).1 (callsIn_of_wp_marks Try.func11 rfl trivial (wpIn_wide.2 ?_))
  simp only [Try.ntmps11, List.size_toArray, List.length_cons, List.length_nil, Nat.reduceAdd, Nat.reduceSub, Array.replicate_succ, Array.replicate_zero, List.push_toArray, List.append_toArray, List.nil_append, List.cons_append]
  go_wp2_with fail
  refine (HRE.out _ ((Chg.refl _ w).alloc _)).mono ?_
  rintro z w1 ⟨rfl, k1, rfl⟩
  clear HRE
  go_wp2_with fail
  refine (HM.out _).mono ?_
  rintro z w1 ⟨v, sf, rfl, hsq, c1, hsf⟩
  obtain ⟨gf, lb, hv, heg, hit⟩ := iter_any hsq
  subst hv
  have HIT : Hid _ := hit γ B d n p
  have cW0 : Chg (fun _ => False) w (((w.alloc (.cells #[.int .i64 0, .int .i64 0] 30)).drewN k1).alloc (.cells #[.int .i64 0, .int .i64 0] 30) |>.alloc (.cells #[.int .i64 R] 3)) := (((chg_then ((Chg.refl _ w).alloc _) (chg_drewN _ _)).alloc _).alloc _)
  have cW : Chg (fun _ => False) w w1 := chg_then cW0 c1
  have HA0 : Hid (BestI w (.func (.func gf) #[] lb) sf a most R ms 0 w1) := by
    have e0 : (w.alloc (.cells #[.int .i64 0, .int .i64 0] 30)).heap.size = w.heap.size + 1 := by simp
    refine ⟨blk_keep ?_ c1 (fun f => f), blk_keep ?_ c1 (fun f => f), blk_keep ?_ c1 (fun f => f), cW, hsq⟩
    · exact (Below.heap_alloc _ _ _ (by simp <;> omega)).trans ((Below.heap_alloc _ _ _ (by simp)).trans (heap_alloc_last w _))
    · have := heap_alloc_last ((w.alloc (.cells #[.int .i64 0, .int .i64 0] 30)).drewN k1) (.cells #[.int .i64 0, .int .i64 0] 30)
      rw [show ((w.alloc (.cells #[.int .i64 0, .int .i64 0] 30)).drewN k1).heap.size = w.heap.size + 1 from e0] at this
      exact (Below.heap_alloc _ _ _ (by simp)).trans this
    · have := heap_alloc_last (((w.alloc (.cells #[.int .i64 0, .int .i64 0] 30)).drewN k1).alloc (.cells #[.int .i64 0, .int .i64 0] 30)) (.cells #[.int .i64 R] 3)
      rw [World.size_alloc, show ((w.alloc (.cells #[.int .i64 0, .int .i64 0] 30)).drewN k1).heap.size = w.heap.size + 1 from e0] at this
      exact this
  have hsz1 : w.heap.size + 3 ≤ w1.heap.size := by have := lt_of_blk HA0.out.rb; omega
  have HSF : Hid (∀ z, sf z → w.heap.size + 3 ≤ z) := fun z f => by have := hsf z f; simp at this; omega
  have HEG : Hid (∀ args w, (callFunc gf args).run Try.prog w = .ok (.enter gf args) w) := heg
  rw [HMS.out] at HIT
  clear hit heg c1 hsf hsq cW0
  go_wp2_with fail
  refine wpIn_wide.1 (wp_range (gf := gf) (lb := lb) rfl HEG.out HIT.out rfl
    (fun _ => False) (fun Ns k W => (∀ z, Ns z → w.heap.size + 3 ≤ z) ∧ BestI w (.func (.func gf) #[] lb) sf a most R ms k W) (fun c Ns k W => c = .exit 0 ∧ (bestM (ms.take k)).1 = r ∧ BestI w (.func (.func gf) #[] lb) sf a most R ms k W)
    (fun Ns k a₁ W => ∃ b m, (∀ z, Ns z → w.heap.size + 3 ≤ z) ∧ ms[k]? = some m ∧ BestI w (.func (.func gf) #[] lb) sf a most R ms k W ∧ W.heap[b]? = some (.cells #[.int .i64 (m.1 : Int), .int .i64 (m.2 : Int)] 30 (0, 0)) ∧ a₁ = { tmps := #[.pointer (some ⟨a, 0, none⟩), .int .i64 most, undef, undef, .pointer (some ⟨w.heap.size, 0, none⟩), .pointer (some ⟨w.heap.size + 1, 0, none⟩), .pointer (some ⟨w.heap.size + 1 + 1, 0, none⟩), .pointer (some ⟨b, 0, none⟩), .agg #[.int .i64 0, .int .i64 0], .pointer (some ⟨a, 0, none⟩), .int .i64 most, .int .i64 R, .pointer (some ⟨a, 0, none⟩), .int .i64 most, .func (.func gf) #[] lb, mval m, undef, undef, undef, undef, undef, undef, undef, undef, undef, undef, undef], defers := [] })
    (fun Ns k W W' h hc => ⟨h.1, h.2.turn (by omega) hc⟩) (fun c Ns k W W' h hc => ⟨h.1, h.2.1, h.2.2.turn (by omega) hc⟩)
    (fun Ns k a₁ W W' ⟨b, m, h0, h1, h2, h3, h4⟩ hc => ⟨b, m, h0, h1, h2.turn (by omega) hc, hc.cells h3, h4⟩)
    (fun Ns Ns' X Y h hc g1 g2 g3 => ⟨fun z f => by
      rcases g2 z f with e | e
      · exact h.1 z e
      · have := lt_of_blk h.2.rb; omega, h.2.turn (B0 := w.heap.size) (Nat.le_refl _) (Turn.new hc)⟩)
    (fun _ f => f.elim)
    (fun Ns W h => ⟨HF.out.keep h.2.chg (fun _ _ f => f), h.2.sq⟩) (fun Ns k W h => ⟨γ, p, gle.refl γ, HF.out.keep h.2.chg (fun _ _ f => f), h.2.sq⟩) ⟨fun _ f => f.elim, HA0.out⟩ ?assign ?body ?done ?stop)
  case assign =>
    rintro Ns l k hk W ⟨hNs, hA⟩ K hK
    have hkm : k < ms.length := by simpa using hk
    have hv : (ms.map mval)[k] = mval ms[k] := by simp
    rw [hv]
    unfold mval
    have HA : Hid (BestI w (.func (.func gf) #[] lb) sf a most R ms k W) := hA
    clear hA
    gi_wp2
    exact hK _ _ ⟨W.heap.size, ms[k], hNs, List.getElem?_eq_getElem hkm, HA.out.turn (B0 := w1.heap.size) (by omega) (Turn.new (chg_one _ _)), heap_alloc_last _ _, rfl⟩ (Calm.new (chg_one _ _))
  case body =>
    rintro Ns l k hk a₁ W hBl hrec ⟨b, m, hNs, hmk, hA, hbx, rfl⟩
    have HNS : Hid (∀ z, Ns z → w.heap.size + 3 ≤ z) := hNs
    obtain ⟨kb0, kb1, kf0, kf1⟩ := cf2 hA.box
    obtain ⟨km0, km1, _, _⟩ := cf2 hbx
    obtain ⟨krb, _⟩ := cells1 hA.rb
    have hRr : R = (r : Int) := HRV.out (fun e => by rw [e] at hmk; simp at hmk)
    subst hRr
    have HTK : Hid (bestM (ms.take (k + 1)) = if (bestM (ms.take k)).1 < m.1 then m else bestM (ms.take k)) := by
      show _ = _
      rw [List.take_add_one, hmk]
      exact bestM_snoc _ _
    have HA : Hid (BestI w (.func (.func gf) #[] lb) sf a most (r : Int) ms k W) := hA
    generalize hbk : bestM (ms.take k) = bk at *
    unfold mval
    clear hA hrec hmk hNs
    by_cases hlt : bk.1 < m.1
    · have hd : decide ((bk.1 : Int) < (m.1 : Int)) = true := by simp; omega
      have hd' : decide (bk.1 < m.1) = true := decide_eq_true hlt
      have hb1 := set_cell (i := 0) (.int .i64 (m.1 : Int)) HA.out.box
      rw [hbk] at hb1
      have hb1' : (W.setCell ⟨w.heap.size + 1, 0, none⟩ (.int .i64 (m.1 : Int))).heap[w.heap.size + 1]? = some (.cells #[.int .i64 (m.1 : Int), .int .i64 (bk.2 : Int)] 30 (0, 0)) := hb1
      have hb2 : ((W.setCell ⟨w.heap.size + 1, 0, none⟩ (.int .i64 (m.1 : Int))).setCell ⟨w.heap.size + 1, 1, none⟩ (.int .i64 (m.2 : Int))).heap[w.heap.size + 1]? = some (.cells #[.int .i64 (m.1 : Int), .int .i64 (m.2 : Int)] 30 (0, 0)) := set_cell _ hb1'
      obtain ⟨_, kc1, _, kg1⟩ := cf2 hb1'
      have cS : Chg (fun z => z = w.heap.size + 1) W ((W.setCell ⟨w.heap.size + 1, 0, none⟩ (.int .i64 (m.1 : Int))).setCell ⟨w.heap.size + 1, 1, none⟩ (.int .i64 (m.2 : Int))) := ((Chg.refl (fun z => z = w.heap.size + 1) W).setCell (p := ⟨w.heap.size + 1, 0, none⟩) (.inl rfl) _).setCell (p := ⟨w.heap.size + 1, 1, none⟩) (.inl rfl) _
      obtain ⟨ke0, _⟩ := cf2 hb2
      have kre := (cells1 (blk_keep HA.out.rb cS (by omega))).1
      have HFIN : Hid (Calm Ns w1.heap.size W ((W.setCell ⟨w.heap.size + 1, 0, none⟩ (.int .i64 (m.1 : Int))).setCell ⟨w.heap.size + 1, 1, none⟩ (.int .i64 (m.2 : Int))) ∧ BestI w (.func (.func gf) #[] lb) sf a most (r : Int) ms (k + 1) ((W.setCell ⟨w.heap.size + 1, 0, none⟩ (.int .i64 (m.1 : Int))).setCell ⟨w.heap.size + 1, 1, none⟩ (.int .i64 (m.2 : Int)))) := by
        refine ⟨Calm.of cS (fun z e => ⟨fun n => by have := HNS.out z n; omega, .inl (by omega)⟩), blk_keep HA.out.res cS (by omega), ?_, blk_keep HA.out.rb cS (by omega), HA.out.chg.trans cS (fun z e => .inr (by omega)), HA.out.sq.keep cS (fun z f e => by have := HSF.out z f; omega)⟩
        rw [HTK.out, if_pos hlt]
        exact hb2
      clear hb1 hb1' hb2 cS hbk
      by_cases hmr : m.1 = r
      · have HST : Hid ((bestM (ms.take (k + 1))).1 = r) := by show _ = _; rw [HTK.out, if_pos hlt]; exact hmr
        have hq : ((m.1 : Int) == (r : Int)) = true := by simp [hmr]
        have hq2 : decide ((m.1 : Int) = (r : Int)) = true := by simp [hmr]
        clear hmr
        gi_wp2
        exact ⟨HFIN.out.1, rfl, HST.out, HFIN.out.2⟩
      · have hq : ((m.1 : Int) == (r : Int)) = false := by rw [beq_eq_false_iff_ne]; omega
        have hq2 : decide ((m.1 : Int) = (r : Int)) = false := by simp; omega
        gi_wp2
        exact ⟨HFIN.out.1, HNS.out, HFIN.out.2⟩
    · have hd : decide ((bk.1 : Int) < (m.1 : Int)) = false := by simp; omega
      have hd' : decide (bk.1 < m.1) = false := decide_eq_false hlt
      have HFIN : Hid (BestI w (.func (.func gf) #[] lb) sf a most (r : Int) ms (k + 1) W) := by
        refine ⟨HA.out.res, ?_, HA.out.rb, HA.out.chg, HA.out.sq⟩
        rw [HTK.out, if_neg hlt, ← hbk]
        exact HA.out.box
      clear hbk
      by_cases hmr : bk.1 = r
      · have HST : Hid ((bestM (ms.take (k + 1))).1 = r) := by show _ = _; rw [HTK.out, if_neg hlt]; exact hmr
        have hq : ((bk.1 : Int) == (r : Int)) = true := by simp [hmr]
        have hq2 : decide ((bk.1 : Int) = (r : Int)) = true := by simp [hmr]
        clear hmr
        gi_wp2
        exact ⟨Calm.new (Chg.refl _ _), rfl, HST.out, HFIN.out⟩
      · have hq : ((bk.1 : Int) == (r : Int)) = false := by rw [beq_eq_false_iff_ne]; omega
        have hq2 : decide ((bk.1 : Int) = (r : Int)) = false := by simp; omega
        gi_wp2
        exact ⟨Calm.new (Chg.refl _ _), HNS.out, HFIN.out⟩
  case done =>
    rintro Ns D W _ hD ⟨_, hA⟩ hdef
    rw [List.length_map] at hA
    have hbox := hA.box
    rw [List.take_length] at hbox
    obtain ⟨kb0, kb1, _, _⟩ := cf2 hbox
    obtain ⟨kr0, kr1, kg0, kg1⟩ := cf2 hA.res
    obtain ⟨bk, hbk⟩ : ∃ bk, bestM ms = bk := ⟨_, rfl⟩
    rw [hbk] at kb0 kb1
    have HBK : Hid (bestM ms = bk) := hbk
    clear hbk
    have hr1 : (W.setCell ⟨w.heap.size, 0, none⟩ (.int .i64 (bk.1 : Int))).heap[w.heap.size]? = some (.cells #[.int .i64 (bk.1 : Int), .int .i64 0] 30 (0, 0)) := set_cell _ hA.res
    have hr2 : ((W.setCell ⟨w.heap.size, 0, none⟩ (.int .i64 (bk.1 : Int))).setCell ⟨w.heap.size, 1, none⟩ (.int .i64 (bk.2 : Int))).heap[w.heap.size]? = some (.cells #[.int .i64 (bk.1 : Int), .int .i64 (bk.2 : Int)] 30 (0, 0)) := set_cell _ hr1
    obtain ⟨_, ks1, _, kt1⟩ := cf2 hr1
    have cS : Chg (fun z => z = w.heap.size) W ((W.setCell ⟨w.heap.size, 0, none⟩ (.int .i64 (bk.1 : Int))).setCell ⟨w.heap.size, 1, none⟩ (.int .i64 (bk.2 : Int))) := ((Chg.refl (fun z => z = w.heap.size) W).setCell (p := ⟨w.heap.size, 0, none⟩) (.inl rfl) _).setCell (p := ⟨w.heap.size, 1, none⟩) (.inl rfl) _
    have hK := blk_keep hdef cS (by omega)
    have HR : Hid (((W.setCell ⟨w.heap.size, 0, none⟩ (.int .i64 (bk.1 : Int))).setCell ⟨w.heap.size, 1, none⟩ (.int .i64 (bk.2 : Int))).putObj D (.deferred none) |>.heap[w.heap.size]? |> (· = some (.cells #[.int .i64 (bk.1 : Int), .int .i64 (bk.2 : Int)] 30 (0, 0)))) := (World.putObj_heap_other (by omega)).trans hr2
    have HCE : Hid (Chg (fun _ => False) w (((W.setCell ⟨w.heap.size, 0, none⟩ (.int .i64 (bk.1 : Int))).setCell ⟨w.heap.size, 1, none⟩ (.int .i64 (bk.2 : Int))).putObj D (.deferred none))) := (hA.chg.trans cS (fun z e => .inr (by omega))).trans (chg_put _ D _) (fun z e => .inr (by omega))
    clear hA hr1 hr2 cS hbox hdef
    go_wp2
    refine ⟨by simp, .inl ⟨_, _, rfl, run_takeDeferred hK, ?_⟩⟩
    obtain ⟨q0, q1, _, _⟩ := cf2 HR.out
    exact ⟨mval bk, by simp [results, Try.results11, go_sem, q0, q1, mval], by rw [HBK.out], HCE.out⟩
  case stop =>
    rintro Ns D c k W _ hD h1 h2 ⟨rfl, hks, hA⟩ hdef
    have hbox := hA.box
    rw [← best_top HB3.out hks] at hbox
    refine wpIn_wide.2 ?_
    obtain ⟨kb0, kb1, _, _⟩ := cf2 hbox
    obtain ⟨kr0, kr1, kg0, kg1⟩ := cf2 hA.res
    obtain ⟨bk, hbk⟩ : ∃ bk, bestM ms = bk := ⟨_, rfl⟩
    rw [hbk] at kb0 kb1
    have HBK : Hid (bestM ms = bk) := hbk
    clear hbk
    have hr1 : (W.setCell ⟨w.heap.size, 0, none⟩ (.int .i64 (bk.1 : Int))).heap[w.heap.size]? = some (.cells #[.int .i64 (bk.1 : Int), .int .i64 0] 30 (0, 0)) := set_cell _ hA.res
    have hr2 : ((W.setCell ⟨w.heap.size, 0, none⟩ (.int .i64 (bk.1 : Int))).setCell ⟨w.heap.size, 1, none⟩ (.int .i64 (bk.2 : Int))).heap[w.heap.size]? = some (.cells #[.int .i64 (bk.1 : Int), .int .i64 (bk.2 : Int)] 30 (0, 0)) := set_cell _ hr1
    obtain ⟨_, ks1, _, kt1⟩ := cf2 hr1
    have cS : Chg (fun z => z = w.heap.size) W ((W.setCell ⟨w.heap.size, 0, none⟩ (.int .i64 (bk.1 : Int))).setCell ⟨w.heap.size, 1, none⟩ (.int .i64 (bk.2 : Int))) := ((Chg.refl (fun z => z = w.heap.size) W).setCell (p := ⟨w.heap.size, 0, none⟩) (.inl rfl) _).setCell (p := ⟨w.heap.size, 1, none⟩) (.inl rfl) _
    have hK := blk_keep hdef cS (by omega)
    have HR : Hid (((W.setCell ⟨w.heap.size, 0, none⟩ (.int .i64 (bk.1 : Int))).setCell ⟨w.heap.size, 1, none⟩ (.int .i64 (bk.2 : Int))).putObj D (.deferred none) |>.heap[w.heap.size]? |> (· = some (.cells #[.int .i64 (bk.1 : Int), .int .i64 (bk.2 : Int)] 30 (0, 0)))) := (World.putObj_heap_other (by omega)).trans hr2
    have HCE : Hid (Chg (fun _ => False) w (((W.setCell ⟨w.heap.size, 0, none⟩ (.int .i64 (bk.1 : Int))).setCell ⟨w.heap.size, 1, none⟩ (.int .i64 (bk.2 : Int))).putObj D (.deferred none))) := (hA.chg.trans cS (fun z e => .inr (by omega))).trans (chg_put _ D _) (fun z e => .inr (by omega))
    clear hA hr1 hr2 cS hbox hdef
    go_wp2
    refine ⟨by simp, .inl ⟨_, _, rfl, run_takeDeferred hK, ?_⟩⟩
    obtain ⟨q0, q1, _, _⟩ := cf2 HR.out
    exact ⟨mval bk, by simp [results, Try.results11, go_sem, q0, q1, mval], by rw [HBK.out], HCE.out⟩
theorem fin_whole : FinSpec gle gfoot Gh.mp Fi SqT where
  refl := gle.refl
  trans := gle.trans
  mpEq := fun h => h.2.1
  lt := fun h => h.lt
  mpLt := fun h => h.mpLt
  cel := fun h => h.cel
  keep := fun h hc hS => h.keep hc hS
  down := fun h hB => h.down hB
  num := fun h => h.num
  newOut := new_out
  newIn := new_in
  pos := pos_any
  skipOut := skip_out
  skipIn := skip_any
  best := best_any
  mats := fun γ B a d n p most w h hm => mats_any a most w hm
  sqLt := fun h z hz => by
    obtain ⟨b1, b2, _, h1, h2, h3, _⟩ := h
    rcases (h3 z).1 hz with e | e
    · rw [e]; exact ⟨_, _, _, h1⟩
    · rw [e]; exact ⟨_, _, _, h2⟩
  sqKeep := fun h hc hS => h.keep hc hS
  iter := iter_any
#print axioms fin_whole
end Go.Proofs.Ytkdionoelbiidaa
