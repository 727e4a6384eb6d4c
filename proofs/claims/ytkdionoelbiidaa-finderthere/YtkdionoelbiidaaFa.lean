/- The law's all: the matches as a list; of no statement by itself. -/
import Derived.Test.YtkdionoelbiidaaFs
namespace Go.Proofs.Ytkdionoelbiidaa
open Go.RowKit
set_option linter.unusedVariables false
attribute [local go_sem] Oper.semAt_some
variable {Γ : Type} {le : Γ → Γ → Prop} {foot : Γ → Nat → Prop} {mp : Γ → Nat} {Fin : Γ → World → Nat → Nat → List Nat → Nat → Nat → Prop} {Sq : World → Value → (Nat → Prop) → Nat → Int → Prop}

theorem ownsRow_keepN {w w' : World} {S : Nat → Prop} {B size : Nat} {e : TypeId} {v : Value} {n : Nat} {xs : List Value} (h : w.ownsRow B e size v n xs) (hc : Chg S w w') (hS : ∀ g, v.ownBlock = some g → ¬ S g) : w'.ownsRow B e size v n xs := by
  refine ⟨h.1, ?_⟩
  rcases h.2 with hn | ⟨g, cap, cur, rfl, hb, hgg, rest⟩
  · exact .inl hn
  · exact .inr ⟨g, cap, cur, rfl, hb, (hc.block g (lt_of_blk hgg) (hS g rfl)).trans hgg, rest⟩
theorem ownsRow_turn {w w' : World} {B B0 size : Nat} {e : TypeId} {v : Value} {n : Nat} {xs : List Value} (h : w.ownsRow B e size v n xs) (hc : Turn B0 w w') : w'.ownsRow B e size v n xs := ownsRow_keepN h hc (fun g hg f => by
  obtain ⟨cur, hcur⟩ := owns_blk h hg
  obtain ⟨_, o, h1, h2⟩ := f
  rw [hcur] at h1; cases h1; cases h2)
theorem two_cells (W : World) (x y : Value) (t : TypeId) : ∀ j u, [x, y][j]? = some u → (W.alloc (.cells #[x, y] t)).cell? ((⟨W.heap.size, 0, none⟩ : Addr).add j) = some u := fun j u h => by
  have hb := heap_alloc_last W (.cells #[x, y] t)
  rcases j with _ | _ | j
  · simp at h; subst h; exact cell0 hb
  · simp at h; subst h; exact cell1 hb
  · simp at h
theorem formN {w : World} {B size : Nat} {t : TypeId} {lv : Value} {n : Nat} {xs : List Value} (h : w.ownsRow B t size lv n xs) : ∃ a c, lv = .slice a n c := by
  rcases h.2 with ⟨rfl, rfl⟩ | ⟨g, cap, cur, rfl, _⟩
  · exact ⟨none, 0, rfl⟩
  · exact ⟨_, cap, rfl⟩
theorem blk_set10 {w : World} {a : Nat} {x u : Value} {t : TypeId} (h : w.heap[a]? = some (.cells #[x] t (0, 0))) : (w.setCell ⟨a, 0, none⟩ u).heap[a]? = some (.cells #[u] t (0, 0)) := by
  have hlt := lt_of_blk h
  have h' : w.heap[a] = .cells #[x] t (0, 0) := by simpa [Array.getElem?_eq_getElem hlt] using h
  show (w.heap.modify a _)[a]? = _
  rw [Array.getElem?_eq_getElem (by simpa using hlt), Array.getElem_modify_self, h']
  rfl
theorem infoM : (Try.prog.info? 30).map (fun i => (i.zero, i.size, i.bytes)) = some (some (.agg #[.int .i64 0, .int .i64 0]), 2, 16) := by kernel_rfl
/-- The state of all's loop. -/
structure AllI (Sq : World → Value → (Nat → Prop) → Nat → Int → Prop) (w : World) (sv : Value) (sf : Nat → Prop) (a : Nat) (most : Int) (ms : List (Nat × Nat)) (B1 k : Nat) (W : World) (v : Value) : Prop where
  res : W.heap[w.heap.size]? = some (.cells #[.slice none 0 0] 32 (0, 0))
  box : W.heap[w.heap.size + 1]? = some (.cells #[v] 32 (0, 0))
  own : W.ownsRow B1 30 2 v k (mcells (ms.take k))
  b1 : B1 ≤ W.heap.size
  chg : Chg (fun _ => False) w W
  sq : Sq W sv sf a most
theorem AllI.turn (S : FinSpec le foot mp Fin Sq) {w : World} {sv : Value} {sf : Nat → Prop} {a : Nat} {most : Int} {ms : List (Nat × Nat)} {B1 k : Nat} {W W' : World} {v : Value} {B0 : Nat} (h : AllI Sq w sv sf a most ms B1 k W v) (hB : w.heap.size ≤ B0) (hc : Turn B0 W W') : AllI Sq w sv sf a most ms B1 k W' v :=
  ⟨hc.cells h.res, hc.cells h.box, ownsRow_turn h.own hc, Nat.le_trans h.b1 hc.size, h.chg.trans hc (fun z f => .inr (Nat.le_trans hB f.1)), S.sqTurn h.sq hc⟩
set_option maxHeartbeats 2000000 in
set_option maxRecDepth 100000 in
theorem all_any (S : FinSpec le foot mp Fin Sq) (γ : Γ) (B a : Nat) (d : List Nat) (n p : Nat) (most : Int) (w : World) (h : Fin γ w B a d n p) (hm : I64 most) : Calls Try.prog 12 #[.pointer (some ⟨a, 0, none⟩), .int .i64 most] w fun e w' => ∃ v, e = .returned v ∧ w'.ownsRow w.heap.size 30 2 v (mat d n p most).length (mcells (mat d n p most)) ∧ Chg (fun _ => False) w w' := by
  have HM : Hid (∀ w1, Chg (fun _ => False) w w1 → Calls Try.prog 17 #[.pointer (some ⟨a, 0, none⟩), .int .i64 most] w1 fun e w' => ∃ v sf, e = .returned v ∧ Sq w' v sf a most ∧ Chg (fun _ => False) w1 w' ∧ ∀ z, sf z → w1.heap.size ≤ z) := fun w1 c => S.mats γ B a d n p most w1 (S.new h c) hm
  have HF : Hid (Fin γ w B a d n p) := h
  obtain ⟨ms, hms⟩ : ∃ ms, mat d n p most = ms := ⟨_, rfl⟩
  have hml : ms.length ≤ 32 := by rw [← hms]; exact mat_len d n p most
  have HMS : Hid (mat d n p most = ms) := hms
  rw [hms]
  clear h hms
  refine callsIn_wide (n := 0).1 (callsIn_of_wp_marks Try.func12 rfl trivial (wpIn_wide.2 ?_))
  simp only [Try.ntmps12, List.size_toArray, List.length_cons, List.length_nil, Nat.reduceAdd, Nat.reduceSub, Array.replicate_succ, Array.replicate_zero, List.push_toArray, List.append_toArray, List.nil_append, List.cons_append]
  go_wp2_with fail
  refine (HM.out _ (((Chg.refl _ w).alloc _).alloc _)).mono ?_
  rintro z w1 ⟨v, sf, rfl, hsq, c1, hsf⟩
  obtain ⟨gf, lb, hv, heg, hit⟩ := S.iter hsq
  subst hv
  have hnil := func_nil gf lb
  obtain ⟨i0, hi0, hz0, hz1, hz2⟩ := info_parts infoM
  have HIT : Hid _ := hit γ B d n p
  have cW : Chg (fun _ => False) w w1 := (((Chg.refl (fun _ => False) w).alloc _).alloc _).trans c1 (fun _ f => f.elim)
  have HA0 : Hid (AllI Sq w (.func (.func gf) #[] lb) sf a most ms w1.heap.size 0 w1 (.slice none 0 0)) := by
    refine ⟨blk_keep ?_ c1 (fun f => f), blk_keep ?_ c1 (fun f => f), World.ownsRow_nil _ _ _ _, Nat.le_refl _, cW, hsq⟩
    · exact (Below.heap_alloc _ _ _ (by simp)).trans (heap_alloc_last w _)
    · have := heap_alloc_last (w.alloc (.cells #[.slice none 0 0] 32)) (.cells #[.slice none 0 0] 32)
      rwa [World.size_alloc] at this
  have HSF : Hid (∀ z, sf z → w.heap.size + 2 ≤ z ∧ z < w1.heap.size) := fun z f => ⟨by have := hsf z f; simpa using this, by obtain ⟨cs, t, fz, e⟩ := S.sqLt hsq z f; exact lt_of_blk e⟩
  have hsz1 : w.heap.size + 2 ≤ w1.heap.size := by have := c1.size; simpa using this
  have HEG : Hid (∀ args w, (callFunc gf args).run Try.prog w = .ok (.enter gf args) w) := heg
  rw [HMS.out] at HIT
  clear hit heg c1 hsf hsq
  go_wp2_with fail
  refine wpIn_wide.1 (wp_range (gf := gf) (lb := lb) rfl HEG.out HIT.out rfl
    (fun _ => False) (fun Ns k W => ∃ (v : Value) (B1 : Nat), ((k = 0 → v = .slice none 0 0) ∧ w1.heap.size ≤ B1 ∧ (∀ z, Ns z → w.heap.size + 2 ≤ z ∧ z < B1)) ∧ AllI Sq w (.func (.func gf) #[] lb) sf a most ms B1 k W v) (fun _ _ _ _ => False)
    (fun Ns k a₁ W => ∃ (v : Value) (B1 b : Nat) (m : Nat × Nat), (w1.heap.size ≤ B1 ∧ (∀ z, Ns z → w.heap.size + 2 ≤ z ∧ z < B1)) ∧ ms[k]? = some m ∧ AllI Sq w (.func (.func gf) #[] lb) sf a most ms B1 k W v ∧ w.heap.size + 2 ≤ b ∧ W.heap[b]? = some (.cells #[.int .i64 (m.1 : Int), .int .i64 (m.2 : Int)] 30 (0, 0)) ∧ a₁ = { tmps := #[.pointer (some ⟨a, 0, none⟩), .int .i64 most, undef, undef, .pointer (some ⟨w.heap.size, 0, none⟩), .pointer (some ⟨w.heap.size + 1, 0, none⟩), .func (.func gf) #[] lb, .pointer (some ⟨b, 0, none⟩), .pointer (some ⟨a, 0, none⟩), .int .i64 most, .func (.func gf) #[] lb, .func (.func gf) #[] lb, .bool false, .func (.func gf) #[] lb, mval m, undef, undef, undef, undef, undef, undef, undef, undef, undef], defers := [] })
    (fun Ns k W W' ⟨v, B1, h0, h⟩ hc => ⟨v, B1, h0, h.turn S (by omega) hc⟩) (fun _ _ _ _ _ h _ => h)
    (fun Ns k a₁ W W' ⟨v, B1, b, m, h0, h1, h2, h3, h4, h5⟩ hc => ⟨v, B1, b, m, h0, h1, h2.turn S (by omega) hc, h3, hc.cells h4, h5⟩)
    (fun Ns Ns' X Y ⟨v, B1, ⟨h1, h2, h3⟩, h⟩ hc g1 g2 g3 => by
      obtain rfl := h1 rfl
      have hX := h.b1
      have hY := hc.size
      refine ⟨_, Y.heap.size, ⟨fun _ => rfl, by omega, fun z f => ?_⟩, blk_keep h.res hc (fun f => f), blk_keep h.box hc (fun f => f), World.ownsRow_nil _ _ _ _, Nat.le_refl _, chg_then h.chg hc, S.sqNew h.sq hc⟩
      have e3 := g3 z f
      rcases g2 z f with e | e
      · have := h3 z e; exact ⟨this.1, by omega⟩
      · refine ⟨by omega, ?_⟩
        rcases e3 with e3 | e3
        · have := h3 z e3; omega
        · exact e3)
    (fun _ f => f.elim)
    (fun Ns W ⟨v, B1, _, h⟩ => ⟨S.new HF.out h.chg, h.sq⟩) (fun Ns k W ⟨v, B1, _, h⟩ => ⟨γ, p, S.refl γ, S.new HF.out h.chg, h.sq⟩) ⟨_, _, ⟨fun _ => rfl, Nat.le_refl _, fun _ f => f.elim⟩, HA0.out⟩ ?assign ?body ?done ?stop)
  case assign =>
    rintro Ns l k hk W ⟨v, B1, ⟨_, hB1, hNs⟩, hA⟩ K hK
    have hkm : k < ms.length := by simpa using hk
    have hv : (ms.map mval)[k] = mval ms[k] := by simp
    rw [hv]
    unfold mval
    have hge : w.heap.size + 2 ≤ W.heap.size := by have := lt_of_blk hA.box; omega
    have HA : Hid (AllI Sq w (.func (.func gf) #[] lb) sf a most ms B1 k W v) := hA
    clear hA
    gi_wp2
    exact hK _ _ ⟨v, B1, W.heap.size, ms[k], ⟨hB1, hNs⟩, List.getElem?_eq_getElem hkm, HA.out.turn S (B0 := w1.heap.size) (by omega) (Turn.new (chg_one _ _)), hge, heap_alloc_last _ _, rfl⟩ (Calm.new (chg_one _ _))
  case body =>
    rintro Ns l k hk a₁ W hBl hrec ⟨v, B1, b, m, ⟨hB1, hNs⟩, hmk, hA, hb, hbx, rfl⟩
    have HNS : Hid (∀ z, Ns z → w.heap.size + 2 ≤ z ∧ z < B1) := hNs
    clear hNs
    have hkm : k < ms.length := by simpa using hk
    have hc5 : W.cell? ⟨w.heap.size + 1, 0, none⟩ = some v := by simp [World.cell?, hA.box]
    have hc7a : W.cell? ⟨b, 0, none⟩ = some (.int .i64 (m.1 : Int)) := cell0 hbx
    have hc7b : W.cell? ⟨b, 1, none⟩ = some (.int .i64 (m.2 : Int)) := cell1 hbx
    have HA : Hid (AllI Sq w (.func (.func gf) #[] lb) sf a most ms B1 k W v) := hA
    have HMK : Hid (mcells (ms.take (k + 1)) = mcells (ms.take k) ++ [.int .i64 (m.1 : Int), .int .i64 (m.2 : Int)]) := by
      show _ = _
      rw [List.take_add_one, hmk, mcells_app]
      rfl
    have hdl : decide (40 < k + 1) = false := by simp; omega
    have cN := chg_one W (.cells #[.int .i64 (m.1 : Int), .int .i64 (m.2 : Int)] 30)
    have hown := ownsRow_keepN hA.own cN (fun _ _ f => f)
    have hcs : ∀ j u, [Value.int .i64 (m.1 : Int), .int .i64 (m.2 : Int)][j]? = some u → (W.alloc (.cells #[.int .i64 (m.1 : Int), .int .i64 (m.2 : Int)] 30)).cell? ((⟨W.heap.size, 0, none⟩ : Addr).add j) = some u := two_cells W _ _ 30
    have hszW : B1 ≤ (W.alloc (.cells #[.int .i64 (m.1 : Int), .int .i64 (m.2 : Int)] 30)).heap.size := Nat.le_trans hA.b1 cN.size
    have hge : w.heap.size + 2 ≤ W.heap.size := by have := lt_of_blk hA.box; omega
    unfold mval
    obtain ⟨av, cv, hvv⟩ := formN hA.own
    subst hvv
    clear hA hmk hrec
    gi_wp2_with (gi_at_builtin; refine wpListIn_append_own _ rfl _ _ 32 rfl B1 30 i0 (.agg #[.int .i64 0, .int .i64 0]) 2 16 Try.underlying32 hi0 hz0 hz1 hz2 rfl (by decide) _ k (mcells (ms.take k)) rfl hown ⟨W.heap.size, 0, none⟩ 1 1 [.int .i64 (m.1 : Int), .int .i64 (m.2 : Int)] rfl rfl hcs (by simp [Value.oneCell']) (by unfold maxLen; omega) (by omega) hszW ?_)
    intro v' w3 hown' hgrow _
    obtain ⟨g', cap', rfl⟩ := ownsRow_succ hown'
    have c3 : Chg (fun z => (Value.slice av k cv).ownBlock = some z) W w3 := (cN.mono (fun _ f => f.elim)).grown hgrow (fun z e => .inl e)
    have hne : ∀ {z : Nat} {cs : Array Value}, W.heap[z]? = some (.cells cs 32 (0, 0)) → (Value.slice av k cv).ownBlock ≠ some z := fun hz e => by
      obtain ⟨cur, hcur⟩ := owns_blk HA.out.own e
      exact ty_ne hcur hz (by decide)
    have hbox3 := blk_keep HA.out.box c3 (fun f => hne HA.out.box f)
    have hres3 := blk_keep HA.out.res c3 (fun f => hne HA.out.res f)
    have hc53 : w3.cell? ⟨w.heap.size + 1, 0, none⟩ = some (.slice av k cv) := by simp [World.cell?, hbox3]
    have hf53 : w3.frozen? ⟨w.heap.size + 1, 0, none⟩ = false := by simp [World.frozen?, hbox3]
    have hb4 : (w3.setCell ⟨w.heap.size + 1, 0, none⟩ (.slice (some ⟨g', 0, none⟩) (k + 1) cap')).heap[w.heap.size + 1]? = some (.cells #[.slice (some ⟨g', 0, none⟩) (k + 1) cap'] 32 (0, 0)) := blk_set10 hbox3
    have cS : Chg (fun z => z = w.heap.size + 1) w3 (w3.setCell ⟨w.heap.size + 1, 0, none⟩ (.slice (some ⟨g', 0, none⟩) (k + 1) cap')) := (Chg.refl (fun z => z = w.heap.size + 1) w3).setCell (p := ⟨w.heap.size + 1, 0, none⟩) (.inl rfl) _
    have hc54 : (w3.setCell ⟨w.heap.size + 1, 0, none⟩ (.slice (some ⟨g', 0, none⟩) (k + 1) cap')).cell? ⟨w.heap.size + 1, 0, none⟩ = some (.slice (some ⟨g', 0, none⟩) (k + 1) cap') := by simp [World.cell?, hb4]
    have HFIN : Hid (Calm Ns w1.heap.size W (w3.setCell ⟨w.heap.size + 1, 0, none⟩ (.slice (some ⟨g', 0, none⟩) (k + 1) cap')) ∧ AllI Sq w (.func (.func gf) #[] lb) sf a most ms B1 (k + 1) (w3.setCell ⟨w.heap.size + 1, 0, none⟩ (.slice (some ⟨g', 0, none⟩) (k + 1) cap')) (.slice (some ⟨g', 0, none⟩) (k + 1) cap')) := by
      have cT : Chg (fun z => (Value.slice av k cv).ownBlock = some z ∨ z = w.heap.size + 1) W (w3.setCell ⟨w.heap.size + 1, 0, none⟩ (.slice (some ⟨g', 0, none⟩) (k + 1) cap')) := (c3.mono (fun z f => .inl (.inl f))).trans cS (fun z f => .inl (.inr f))
      refine ⟨Calm.of cT (fun z f => ?_), blk_keep hres3 cS (by omega), hb4, ownsRow_keepN (by rw [HMK.out]; exact hown') cS (fun g e f => ?_), Nat.le_trans HA.out.b1 cT.size, HA.out.chg.trans cT (fun z f => .inr ?_), S.sqKeep HA.out.sq cT (fun z f g => ?_)⟩
      · rcases f with f | f
        · obtain ⟨cur, hcur⟩ := owns_blk HA.out.own f
          exact ⟨fun n => by have := (HNS.out z n).2; have := (HA.out.own.lt z f).1; omega, .inr ⟨_, _, _, hcur⟩⟩
        · exact ⟨fun n => by have := (HNS.out z n).1; omega, .inl (by omega)⟩
      · obtain ⟨cur, hcur⟩ := owns_blk hown' e
        rw [f] at hcur
        exact ty_ne hcur hbox3 (by decide)
      · rcases f with f | f
        · have := (HA.out.own.lt z f).1; omega
        · omega
      · have h1 := HSF.out z f
        rcases g with g | g
        · have := (HA.out.own.lt z g).1; omega
        · omega
    clear c3 hbox3 hres3 hb4 cS hown hcs hszW hc5 hown' hgrow
    gi_wp2
    exact ⟨HFIN.out.1, _, _, ⟨fun e => by omega, hB1, HNS.out⟩, HFIN.out.2⟩
  case done =>
    rintro Ns D W _ hD ⟨v, B1, ⟨_, hB1, _⟩, hA⟩ hdef
    obtain ⟨av, cv, hvv⟩ := formN hA.own
    subst hvv
    have HA : Hid (AllI Sq w (.func (.func gf) #[] lb) sf a most ms B1 (ms.map mval).length W (.slice av (ms.map mval).length cv)) := hA
    rw [List.length_map] at HA
    clear hA
    generalize hml2 : ms.length = ml at *
    have hc5 : W.cell? ⟨w.heap.size + 1, 0, none⟩ = some (.slice av ml cv) := by simp [World.cell?, HA.out.box]
    have hc4 : W.cell? ⟨w.heap.size, 0, none⟩ = some (.slice none 0 0) := by simp [World.cell?, HA.out.res]
    have hf4 : W.frozen? ⟨w.heap.size, 0, none⟩ = false := by simp [World.frozen?, HA.out.res]
    have hK : (W.setCell ⟨w.heap.size, 0, none⟩ (.slice av ml cv)).heap[D]? = some (.deferred (some [])) := blk_keep hdef ((Chg.refl (fun z => z = w.heap.size) W).setCell (p := ⟨w.heap.size, 0, none⟩) (.inl rfl) _) (by omega)
    go_wp2
    refine ⟨by simp, .inl ⟨_, _, rfl, run_takeDeferred hK, ?_⟩⟩
    have cS : Chg (fun z => z = w.heap.size ∨ z = D) W ((W.setCell ⟨w.heap.size, 0, none⟩ (.slice av ml cv)).putObj D (.deferred none)) := ((Chg.refl (fun z => z = w.heap.size ∨ z = D) W).setCell (p := ⟨w.heap.size, 0, none⟩) (.inl (.inl rfl)) _).trans (chg_put _ D _) (fun z e => .inl (.inr e))
    have hres : ((W.setCell ⟨w.heap.size, 0, none⟩ (.slice av ml cv)).putObj D (.deferred none)).cell? ⟨w.heap.size, 0, none⟩ = some (.slice av ml cv) := by
      have h1 : ((W.setCell ⟨w.heap.size, 0, none⟩ (.slice av ml cv)).putObj D (.deferred none)).heap[w.heap.size]? = some (.cells #[.slice av ml cv] 32 (0, 0)) := (World.putObj_heap_other (by omega)).trans (blk_set10 HA.out.res)
      simp [World.cell?, h1]
    refine ⟨.slice av ml cv, by simp [results, Try.results12, go_sem, hres], _, rfl, ?_, ?_⟩
    · have h2 := ownsRow_keepN HA.out.own cS (fun g e f => by
        obtain ⟨cur, hcur⟩ := owns_blk HA.out.own e
        rcases f with f | f
        · rw [f] at hcur
          exact ty_ne hcur HA.out.res (by decide)
        · rw [f, hdef] at hcur
          cases hcur)
      rw [← hml2, List.take_length] at h2
      rw [hml2] at h2 ⊢
      exact owns_base h2 (by omega)
    · exact HA.out.chg.trans cS (fun z f => .inr (by omega))
  case stop => exact fun _ _ _ _ _ _ _ _ _ h _ => h.elim
end Go.Proofs.Ytkdionoelbiidaa
