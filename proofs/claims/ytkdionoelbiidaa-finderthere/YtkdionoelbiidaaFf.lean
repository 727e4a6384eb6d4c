/- FinderThere, above what is asked of the program's finders; of no statement by itself. -/
import Derived.Test.YtkdionoelbiidaaFe
namespace Go.Proofs.Ytkdionoelbiidaa
open Go.RowKit
set_option linter.unusedVariables false
variable {Γ : Type} {le : Γ → Γ → Prop} {foot : Γ → Nat → Prop} {mp : Γ → Nat} {Fin : Γ → World → Nat → Nat → List Nat → Nat → Nat → Prop} {Sq : World → Value → (Nat → Prop) → Nat → Int → Prop}

theorem mat_asc (d : List Nat) (dict p : Nat) (most : Int) : (mat d dict p most).Pairwise (fun x y => x.2 < y.2) := by
  unfold mat
  refine List.Pairwise.filterMap (matAt d p (bnd most)) ?_ (cand_asc d dict p)
  intro t t' h x hx y hy
  unfold matAt at hx hy
  split at hx
  · split at hy
    · cases hx; cases hy; exact h
    · cases hy
  · cases hx
theorem mat_step {d : List Nat} {dict p : Nat} {most : Int} {i : Nat} {x y : Nat × Nat} (hx : (mat d dict p most)[i]? = some x) (hy : (mat d dict p most)[i + 1]? = some y) : x.2 < y.2 := by
  obtain ⟨h1, e1⟩ := List.getElem?_eq_some_iff.1 hx
  obtain ⟨h2, e2⟩ := List.getElem?_eq_some_iff.1 hy
  have := List.pairwise_iff_getElem.1 (mat_asc d dict p most) i (i + 1) h1 h2 (by omega)
  rw [e1, e2] at this
  exact this
/-- The state of the inner loop. -/
structure Th (Fin : Γ → World → Nat → Nat → List Nat → Nat → Nat → Prop) (foot : Γ → Nat → Prop) (w0 W : World) (γ : Γ) (a : Nat) (d : List Nat) (n p : Nat) (la : Option Addr) (ms : List (Nat × Nat)) (b : Nat) (x : Nat × Nat) : Prop where
  one : One Fin w0 W γ a d n p
  row : MRow W la ms
  box : W.heap[b]? = some (.cells #[.int .i64 (x.1 : Int), .int .i64 (x.2 : Int)] 30 (0, 0))
  apf : ∀ z, foot γ z → z < b
  apr : ∀ g, la = some ⟨g, 0, none⟩ → g < b
  b0 : w0.heap.size ≤ b
theorem Th.new (S : FinSpec le foot mp Fin Sq) {w0 W W' : World} {γ : Γ} {a : Nat} {d : List Nat} {n p : Nat} {la : Option Addr} {ms : List (Nat × Nat)} {b : Nat} {x : Nat × Nat} (h : Th Fin foot w0 W γ a d n p la ms b x) (hc : Chg (fun _ => False) W W') : Th Fin foot w0 W' γ a d n p la ms b x := ⟨h.one.new S hc, h.row.new hc, blk_keep h.box hc (fun f => f), h.apf, h.apr, h.b0⟩
theorem Th.set (S : FinSpec le foot mp Fin Sq) {w0 W W' : World} {γ : Γ} {a : Nat} {d : List Nat} {n p : Nat} {la : Option Addr} {ms : List (Nat × Nat)} {b : Nat} {x y : Nat × Nat} (h : Th Fin foot w0 W γ a d n p la ms b x) (hc : Chg (fun z => z = b) W W') (hb : W'.heap[b]? = some (.cells #[.int .i64 (y.1 : Int), .int .i64 (y.2 : Int)] 30 (0, 0))) : Th Fin foot w0 W' γ a d n p la ms b y := by
  refine ⟨⟨S.keep h.one.fin hc (fun z f e => by have := h.apf z f; omega), h.one.chg.trans hc (fun z e => .inr (by have := h.b0; omega))⟩, fun k m hk => ?_, hb, h.apf, h.apr, h.b0⟩
  obtain ⟨g, e, h1, h2⟩ := h.row k m hk
  have hg := h.apr g e
  have h3 := World.block_lt_of_cell? W _ h1
  have h4 := World.block_lt_of_cell? W _ h2
  refine ⟨g, e, ?_, ?_⟩
  · rw [World.cell?_of_block (w := W) (hc.block _ h3 (by show ¬ g = b; omega))]; exact h1
  · rw [World.cell?_of_block (w := W) (hc.block _ h4 (by show ¬ g = b; omega))]; exact h2
set_option maxHeartbeats 8000000 in
set_option maxRecDepth 100000 in
theorem there_any (S : FinSpec le foot mp Fin Sq) (ad : Option Addr) (L c : Nat) (d : List Nat) (dict most : Int) (w0 : World) (hr : Row8 w0 ad L c (nums d)) (hdig : Rc.Dig d) (hLc : L ≤ c) (hL : L ≤ 140737488351232) (hdi : I64 dict) (hmo : I64 most) : Calls Try.prog 6 #[.slice ad L c, .int .i64 dict, .int .i64 most] w0 fun e w' => e = .returned (.bool true) ∧ Chg (fun _ => False) w0 w' := by
  have HR : Hid (Row8 w0 ad L c (nums d)) := hr
  have hdl : d.length = L := by have := hr.1; rw [nums_len] at this; exact this
  have HDL : Hid (d.length = L) := hdl
  have hne := pF_ne
  have hnl := pF_nil
  by_cases hout : dict < 1 ∨ 4294967295 < dict
  · have HN : Hid _ := S.newOut ad L c dict w0 hout
    clear hr hdl
    by_cases h1 : dict < 1
    · have hd1 : decide (dict < 1) = true := by simp; omega
      go_enter Try.func6, Try.ntmps6
      go_wp2_with fail
      refine Calls.mono HN.out ?_
      rintro z w1 ⟨rfl, c1⟩
      go_wp2_with fail
      refine (num_any _ _).mono ?_
      rintro z w2 ⟨rfl, rfl⟩
      go_wp2
      go_ret
      exact ⟨rfl, c1⟩
    · have hd1 : decide (dict < 1) = false := by simp; omega
      have hd2 : decide (4294967295 < dict) = true := by simp; omega
      go_enter Try.func6, Try.ntmps6
      go_wp2_with fail
      refine Calls.mono HN.out ?_
      rintro z w1 ⟨rfl, c1⟩
      go_wp2_with fail
      refine (num_any _ _).mono ?_
      rintro z w2 ⟨rfl, rfl⟩
      go_wp2
      go_ret
      exact ⟨rfl, c1⟩
  obtain ⟨n, rfl⟩ : ∃ n : Nat, (n : Int) = dict := ⟨dict.toNat, by omega⟩
  have hd1 : decide ((n : Int) < 1) = false := by simp; omega
  have hd2 : decide (4294967295 < (n : Int)) = false := by simp; omega
  have hnb : (n : Int) ≤ 4294967295 := by omega
  have HN : Hid _ := S.newIn ad L c d n w0 hr hdig hLc (by omega) (by omega) (by omega)
  clear hr hdl hout hdi
  have hLi : (L : Int) ≤ 140737488351232 := by omega
  go_enter Try.func6, Try.ntmps6
  go_wp2_with fail
  refine Calls.mono HN.out ?_
  rintro z w1 ⟨γ0, a, rfl, hf1, c1⟩
  have HO1 : Hid (One Fin w0 w1 γ0 a d n 0) := ⟨hf1, c1⟩
  clear hf1 c1 HN
  go_wp2_with fail
  refine (num_any _ _).mono ?_
  rintro z w2 ⟨rfl, rfl⟩
  go_wp2_with fail
  go_loopw [9] (fun v wr => ∃ (p : Nat) (γ : Γ), p ≤ L + 1 ∧ v = .int .i64 (p : Int) ∧ Hid (One Fin w0 wr γ a d n (min p L))) (fun v _ => L + 1 - (intOf v).toNat)
  case atStart => exact ⟨0, γ0, Nat.zero_le _, rfl, by rw [show min 0 L = 0 by omega]; exact HO1.out⟩
  case round =>
    clear HO1
    obtain ⟨p, γ, hp, rfl, HOm⟩ := hrel
    by_cases hlt : p ≤ L
    · have hdp : decide (p ≤ L) = true := decide_eq_true hlt
      have hdp' : decide ((p : Int) ≤ (L : Int)) = true := by simp; omega
      have hpi : (p : Int) ≤ 140737488351232 := by omega
      have HO : Hid (One Fin w0 wr γ a d n p) := by have := HOm.out; rw [show min p L = p by omega] at this; exact this
      clear HOm
      generalize wr = W2 at *
      go_wp2_with fail
      refine (S.pos γ w0.heap.size a d n p W2 HO.out.fin).mono ?_
      rintro z w3 ⟨rfl, c3⟩
      have HO3 : Hid (One Fin w0 w3 γ a d n p) := HO.out.new S c3
      clear c3 HO
      go_wp2_with fail
      refine (all_any S γ w0.heap.size a d n p most w3 HO3.out.fin hmo).mono ?_
      obtain ⟨ms, hms⟩ : ∃ ms, mat d n p most = ms := ⟨_, rfl⟩
      have HMS : Hid (mat d n p most = ms) := hms
      rw [hms]
      rintro z w4 ⟨v4, rfl, ho4, c4⟩
      obtain ⟨la, lc, hv4⟩ := formN ho4
      subst hv4
      have hml : ms.length ≤ 32 := by rw [← hms]; exact mat_len d n p most
      have HTH : Hid (Th Fin foot w0 (w4.alloc (.cells #[.int .i64 0, .int .i64 0] 30)) γ a d n p la ms w4.heap.size (0, 0)) := by
        have h4 := (HO3.out.new S c4)
        refine ⟨h4.new S (chg_one _ _), (mrow_own ho4).new (chg_one _ _), heap_alloc_last _ _, fun z f => (S.lt h4.fin z f).2, fun g e => ?_, h4.chg.size⟩
        subst e
        exact (ho4.lt g rfl).2
      have HBE : Hid (∀ w, Chg (fun _ => False) w0 w → Fin γ w w0.heap.size a d n p → Calls Try.prog 11 #[.pointer (some ⟨a, 0, none⟩), .int .i64 most] w fun e w' => e = .returned (mval (bestM ms)) ∧ Chg (fun _ => False) w w') := fun w _ hf => by
        have := S.best γ w0.heap.size a d n p most w hf hmo
        rw [hms] at this
        exact this
      obtain ⟨Lm, hLm⟩ : ∃ Lm, ms.length = Lm := ⟨_, rfl⟩
      have HLM : Hid (ms.length = Lm) := hLm
      rw [hLm] at hml
      clear c4 ho4 HO3 hms
      rw [hLm]
      clear hLm
      have hLmi : (Lm : Int) ≤ 32 := by omega
      go_wp2_with fail
      generalize w4.heap.size = b at *
      generalize w4.alloc (.cells #[.int .i64 0, .int .i64 0] 30) = W4 at *
      go_loopw [55] (fun v wr => ∃ i : Nat, i ≤ Lm ∧ v = .int .i64 (i : Int) ∧ Hid (Th Fin foot w0 wr γ a d n p la ms b (bestM (ms.take i)))) (fun v _ => Lm - (intOf v).toNat)
      case atStart => exact ⟨0, Nat.zero_le _, rfl, HTH.out⟩
      case round =>
        clear HTH
        obtain ⟨i, hi, rfl, HT⟩ := hrel
        have hii : (i : Int) ≤ 32 := by omega
        by_cases hil : i < Lm
        · have hdi1 : decide (i < Lm) = true := decide_eq_true hil
          obtain ⟨m, hm⟩ : ∃ m, ms[i]? = some m := ⟨_, List.getElem?_eq_getElem (by rw [HLM.out]; exact hil)⟩
          have hmem : m ∈ mat d n p most := by rw [HMS.out]; exact List.mem_of_getElem? hm
          obtain ⟨q1, q2, q3, q4, q5, q6⟩ := mat_mem hmem
          obtain ⟨g, hla, hc1, hc2⟩ := HT.out.row i m hm
          subst hla
          obtain ⟨ml, md⟩ := m
          simp only at q1 q2 q3 q4 q5 q6 hc1 hc2
          have hl1 : decide ((md : Int) < 1) = false := by simp; omega
          have hl2 : decide ((p : Int) < (md : Int)) = false := by simp; omega
          have hl2' : decide (p < md) = false := by simp; omega
          have hl3 : decide ((n : Int) < (md : Int)) = false := by simp; omega
          have hl3' : decide (n < md) = false := by simp; omega
          have hl4 : decide ((32 : Int) ≤ (i : Int)) = false := by simp; omega
          have hl4' : decide (32 ≤ i) = false := by simp; omega
          have hl5 : decide ((ml : Int) < 3) = false := by simp; omega
          have hl5' : decide (ml < 3) = false := by simp; omega
          have hmli : (ml : Int) ≤ 273 := by omega
          have hmdi : (md : Int) ≤ 140737488351232 := by omega
          have HMM : Hid (ms[i]? = some (ml, md)) := hm
          have cA := chg_one wr (.cells #[.int .i64 (ml : Int), .int .i64 (md : Int)] 30)
          have HT5 : Hid (Th Fin foot w0 (wr.alloc (.cells #[.int .i64 (ml : Int), .int .i64 (md : Int)] 30)) γ a d n p (some ⟨g, 0, none⟩) ms b (bestM (ms.take i))) := HT.out.new S cA
          have HB13 : Hid ((wr.alloc (.cells #[.int .i64 (ml : Int), .int .i64 (md : Int)] 30)).heap[wr.heap.size]? = some (.cells #[.int .i64 (ml : Int), .int .i64 (md : Int)] 30 (0, 0))) := heap_alloc_last _ _
          have HB13N : Hid (wr.heap.size ≠ b) := by have := lt_of_blk HT.out.box; show _ ≠ _; omega
          have HRQ0 : Hid (∀ W, Chg (fun _ => False) w0 W → ∀ q, Calls Try.prog 10 #[.slice ad L c, .int .i64 (p : Int), .int .i64 (md : Int), .int .i64 most] (W.drewN q) fun e w'' => e = .returned (.int .i64 (ml : Int)) ∧ ∃ m, w'' = W.drewN m) := fun W hc q => by
            have h1 := run_q ad L c d p md most (W.drewN q) (Bk.row8_chg HR.out (chg_then hc (chg_drewN _ _))) q5 hlt (by omega) hmo
            rw [← q3] at h1
            exact Calls.quiet_of h1
          clear cA hmem q1 q2 q3 hm
          by_cases hi0 : 0 < i
          · have hz : decide (0 < i) = true := decide_eq_true hi0
            have hz' : decide (0 < (i : Int)) = true := by simp; omega
            obtain ⟨j, hj⟩ : ∃ j, i = j + 1 := ⟨i - 1, by omega⟩
            have hji : (i : Int) - 1 = (j : Int) := by omega
            have hjL : j < Lm := by omega
            have hjb : (j : Int) ≤ 32 := by omega
            obtain ⟨m', hm'⟩ : ∃ m', ms[j]? = some m' := ⟨_, List.getElem?_eq_getElem (by rw [HLM.out]; exact hjL)⟩
            have hstep : m'.2 < md := by
              have h1 := HMM.out
              rw [hj] at h1
              exact mat_step (d := d) (dict := n) (p := p) (most := most) (by rw [HMS.out]; exact hm') (by rw [HMS.out]; exact h1)
            have hl7 : decide ((md : Int) ≤ (m'.2 : Int)) = false := by simp; omega
            have hl7' : decide (md ≤ m'.2) = false := by simp; omega
            clear hj
            go_wp2_with fail
            generalize hb13 : wr.heap.size = b13 at *
            generalize wr.alloc (.cells #[.int .i64 (ml : Int), .int .i64 (md : Int)] 30) = W5 at *
            have k13a := cell0 HB13.out
            have k13b := cell1 HB13.out
            obtain ⟨g', hg', hcj1, hcj2⟩ := HT5.out.row j m' hm'
            cases hg'
            clear hb13 hc1 hc2 hm' hstep hcj1
            go_quiet (fail)
            have HT6 : Hid (Th Fin foot w0 (W5.drewN nq) γ a d n p (some ⟨g, 0, none⟩) ms b (bestM (ms.take i))) := HT5.out.new S (chg_drewN W5 nq)
            have HB6 : Hid ((W5.drewN nq).heap[b13]? = some (.cells #[.int .i64 (ml : Int), .int .i64 (md : Int)] 30 (0, 0))) := blk_keep HB13.out (chg_drewN W5 nq) (fun f => f)
            have HRQ : Hid _ := HRQ0.out _ HT6.out.one.chg
            clear HT5 HB13 k13a k13b
            generalize W5.drewN nq = W6 at *
            have k13a := cell0 HB6.out
            have k13b := cell1 HB6.out
            go_wp2_with fail
            go_quiet (first | (go_at_call 10; exact HRQ.out _))
            have HT7 : Hid (Th Fin foot w0 (W6.drewN nq) γ a d n p (some ⟨g, 0, none⟩) ms b (bestM (ms.take i))) := HT6.out.new S (chg_drewN W6 nq)
            have HB7 : Hid ((W6.drewN nq).heap[b13]? = some (.cells #[.int .i64 (ml : Int), .int .i64 (md : Int)] 30 (0, 0))) := blk_keep HB6.out (chg_drewN W6 nq) (fun f => f)
            clear HT6 HB6 k13a k13b HRQ
            generalize W6.drewN nq = W7 at *
            have k13a := cell0 HB7.out
            have k13b := cell1 HB7.out
            obtain ⟨bx, hbx⟩ : ∃ bx, bestM (ms.take i) = bx := ⟨_, rfl⟩
            have HBS : Hid (bestM (ms.take (i + 1)) = if bx.1 < ml then (ml, md) else bx) := by
              show _ = _
              rw [List.take_add_one, HMM.out]
              show bestM (ms.take i ++ [(ml, md)]) = _
              rw [bestM_snoc, hbx]
            rw [hbx] at HT7
            clear hbx
            have kba := cell0 HT7.out.box
            have kbb := cell1 HT7.out.box
            have kfa := free0 HT7.out.box
            have kfb := free1 HT7.out.box
            by_cases hbl : bx.1 < ml
            · have hl6 : decide ((bx.1 : Int) < (ml : Int)) = true := by simp; omega
              have hl6' : decide (bx.1 < ml) = true := decide_eq_true hbl
              have HT8 : Hid (Th Fin foot w0 ((W7.setCell ⟨b, 0, none⟩ (.int .i64 (ml : Int))).setCell ⟨b, 1, none⟩ (.int .i64 (md : Int))) γ a d n p (some ⟨g, 0, none⟩) ms b (bestM (ms.take (i + 1)))) := by
                rw [HBS.out, if_pos hbl]
                exact HT7.out.set S (((Chg.refl (fun z => z = b) W7).setCell (p := ⟨b, 0, none⟩) (.inl rfl) _).setCell (p := ⟨b, 1, none⟩) (.inl rfl) _) (blk_set1 (blk_set0 HT7.out.box))
              clear HT7 HBS HB7 HB13N
              go_wp2_with fail
              go_roundw
              case rel => exact ⟨i + 1, by omega, by go_num, HT8.out⟩
              case measure => simp [intOf]; omega
            · have hl6 : decide ((bx.1 : Int) < (ml : Int)) = false := by simp; omega
              have hl6' : decide (bx.1 < ml) = false := decide_eq_false hbl
              have HT8 : Hid (Th Fin foot w0 W7 γ a d n p (some ⟨g, 0, none⟩) ms b (bestM (ms.take (i + 1)))) := by
                rw [HBS.out, if_neg hbl]
                exact HT7.out
              clear HT7 HBS HB7 HB13N
              go_wp2_with fail
              go_roundw
              case rel => exact ⟨i + 1, by omega, by go_num, HT8.out⟩
              case measure => simp [intOf]; omega
          · have hz : decide (0 < i) = false := decide_eq_false hi0
            have hz' : decide (0 < (i : Int)) = false := by simp; omega
            go_wp2_with fail
            generalize hb13 : wr.heap.size = b13 at *
            generalize wr.alloc (.cells #[.int .i64 (ml : Int), .int .i64 (md : Int)] 30) = W5 at *
            have k13a := cell0 HB13.out
            have k13b := cell1 HB13.out
            clear hb13 hc1 hc2
            go_quiet (fail)
            have HT6 : Hid (Th Fin foot w0 (W5.drewN nq) γ a d n p (some ⟨g, 0, none⟩) ms b (bestM (ms.take i))) := HT5.out.new S (chg_drewN W5 nq)
            have HB6 : Hid ((W5.drewN nq).heap[b13]? = some (.cells #[.int .i64 (ml : Int), .int .i64 (md : Int)] 30 (0, 0))) := blk_keep HB13.out (chg_drewN W5 nq) (fun f => f)
            have HRQ : Hid _ := HRQ0.out _ HT6.out.one.chg
            clear HT5 HB13 k13a k13b
            generalize W5.drewN nq = W6 at *
            have k13a := cell0 HB6.out
            have k13b := cell1 HB6.out
            go_wp2_with fail
            go_quiet (first | (go_at_call 10; exact HRQ.out _))
            have HT7 : Hid (Th Fin foot w0 (W6.drewN nq) γ a d n p (some ⟨g, 0, none⟩) ms b (bestM (ms.take i))) := HT6.out.new S (chg_drewN W6 nq)
            have HB7 : Hid ((W6.drewN nq).heap[b13]? = some (.cells #[.int .i64 (ml : Int), .int .i64 (md : Int)] 30 (0, 0))) := blk_keep HB6.out (chg_drewN W6 nq) (fun f => f)
            clear HT6 HB6 k13a k13b HRQ
            generalize W6.drewN nq = W7 at *
            have k13a := cell0 HB7.out
            have k13b := cell1 HB7.out
            obtain ⟨bx, hbx⟩ : ∃ bx, bestM (ms.take i) = bx := ⟨_, rfl⟩
            have HBS : Hid (bestM (ms.take (i + 1)) = if bx.1 < ml then (ml, md) else bx) := by
              show _ = _
              rw [List.take_add_one, HMM.out]
              show bestM (ms.take i ++ [(ml, md)]) = _
              rw [bestM_snoc, hbx]
            rw [hbx] at HT7
            clear hbx
            have kba := cell0 HT7.out.box
            have kbb := cell1 HT7.out.box
            have kfa := free0 HT7.out.box
            have kfb := free1 HT7.out.box
            by_cases hbl : bx.1 < ml
            · have hl6 : decide ((bx.1 : Int) < (ml : Int)) = true := by simp; omega
              have hl6' : decide (bx.1 < ml) = true := decide_eq_true hbl
              have HT8 : Hid (Th Fin foot w0 ((W7.setCell ⟨b, 0, none⟩ (.int .i64 (ml : Int))).setCell ⟨b, 1, none⟩ (.int .i64 (md : Int))) γ a d n p (some ⟨g, 0, none⟩) ms b (bestM (ms.take (i + 1)))) := by
                rw [HBS.out, if_pos hbl]
                exact HT7.out.set S (((Chg.refl (fun z => z = b) W7).setCell (p := ⟨b, 0, none⟩) (.inl rfl) _).setCell (p := ⟨b, 1, none⟩) (.inl rfl) _) (blk_set1 (blk_set0 HT7.out.box))
              clear HT7 HBS HB7 HB13N
              go_wp2_with fail
              go_roundw
              case rel => exact ⟨i + 1, by omega, by go_num, HT8.out⟩
              case measure => simp [intOf]; omega
            · have hl6 : decide ((bx.1 : Int) < (ml : Int)) = false := by simp; omega
              have hl6' : decide (bx.1 < ml) = false := decide_eq_false hbl
              have HT8 : Hid (Th Fin foot w0 W7 γ a d n p (some ⟨g, 0, none⟩) ms b (bestM (ms.take (i + 1)))) := by
                rw [HBS.out, if_neg hbl]
                exact HT7.out
              clear HT7 HBS HB7 HB13N
              go_wp2_with fail
              go_roundw
              case rel => exact ⟨i + 1, by omega, by go_num, HT8.out⟩
              case measure => simp [intOf]; omega
        · have hdi1 : decide (i < Lm) = false := decide_eq_false hil
          obtain ⟨bx, hbx⟩ : ∃ bx, bestM ms = bx := ⟨_, rfl⟩
          have HT5 : Hid (Th Fin foot w0 wr γ a d n p la ms b bx) := by
            have := HT.out
            rw [show i = ms.length by have := HLM.out; omega, List.take_length, hbx] at this
            exact this
          obtain ⟨bl, bd⟩ := bx
          have HBX : Hid (wr.heap[b]? = some (.cells #[.int .i64 (bl : Int), .int .i64 (bd : Int)] 30 (0, 0))) := HT5.out.box
          have HBEST : Hid (∀ w, Chg (fun _ => False) wr w → Calls Try.prog 11 #[.pointer (some ⟨a, 0, none⟩), .int .i64 most] w fun e w' => e = .returned (.agg #[.int .i64 (bl : Int), .int .i64 (bd : Int)]) ∧ Chg (fun _ => False) w w') := fun w hc => by
            have := HBE.out w (chg_then HT5.out.one.chg hc) (S.new HT5.out.one.fin hc)
            rw [hbx] at this
            exact this
          clear HT HBE hbx
          generalize wr = W5 at *
          go_wp2_with fail
          refine wp_region_phase (mk := fun u => #[_, _, _, _, _, _, _, _, _, _, _, _, _, _, _, _, _, _, _, _, _, _, _, _, _, _, _, _, _, _, _, _, _, _, _, _, _, _, _, _, _, _, _, _, _, _, _, _, _, _, _, _, _, _, _, _, _, _, _, _, _, _, _, _, _, _, _, _, _, _, _, _, _, _, _, _, _, _, _, _, _, _, _, _, _, _, _, _, _, _, _, _, _, _, _, _, _, _, _, _, _, _, _, _, _, _, _, _, _, _, _, _, _, _, _, u 115, u 116, u 117, u 118, _, _, _, _, _, _, _, _, _, _, _]) (G := lookG [(115, .pointer (some ⟨a, 0, none⟩)), (116, .int .i64 most), (117, .agg #[.int .i64 (bl : Int), .int .i64 (bd : Int)]), (118, .agg #[.int .i64 (bl : Int), .int .i64 (bd : Int)])]) (J := fun _ _ ww => Chg (fun _ => False) W5 ww) [2] (fun t => match t with | 115 => u115 | 116 => u116 | 117 => u117 | 118 => u118 | _ => undef) rfl (by kernel_rfl) 4 _ rfl rfl (by kernel_rfl) (by kernel_rfl) (by kernel_rfl) (by decide) ?_ ?_ ?_ ?_ ?_
          · repeat (refine ⟨⟨_, rfl, fun _ _ => rfl⟩, ?_⟩)
            exact trivial
          · exact fun q u u2 ww _ h => h
          · exact (Chg.refl _ W5).drew
          · refine ⟨?_, ?_, ?_, ?_, trivial⟩
            · show StepR _ _ _ _ _ _  _ -- 115
              unfold StepR
              intro q u w_ hj hd K hK
              clear hd
              go_simp
              exact hK.out (.pointer (some ⟨a, 0, none⟩)) rfl
            · show StepR _ _ _ _ _ _  _ -- 116
              unfold StepR
              intro q u w_ hj hd K hK
              clear hd
              go_simp
              exact hK.out (.int .i64 most) rfl
            · show StepW _ _ _ _ _ _ 0 _ -- 117
              unfold StepW
              intro u w_ hj hd K hK
              have h115 : u 115 = .pointer (some ⟨a, 0, none⟩) := hd.get 0 (by kernel_rfl)
              have h116 : u 116 = .int .i64 most := hd.get 1 (by kernel_rfl)
              clear hd
              simp only [h115, h116] at hK
              have hc : Chg (fun _ => False) W5 w_ := hj
              go_simp
              go_at_call 11
              refine (HBEST.out w_ hc).mono ?_
              rintro z w2 ⟨rfl, c2⟩
              exact hK.out _ w2 (chg_then hc c2) rfl
            · show StepR _ _ _ _ _ _  _ -- 118
              unfold StepR
              intro q u w_ hj hd K hK
              clear hd
              have hcl := cell0 (blk_keep HBX.out hj (fun f => f))
              have hcr := cell1 (blk_keep HBX.out hj (fun f => f))
              go_simp
              exact hK.out _ rfl
          · intro u w6 hj hA K hK
            have e117 : u 117 = .agg #[.int .i64 (bl : Int), .int .i64 (bd : Int)] := hA.at 117 (by kernel_rfl)
            have e118 : u 118 = .agg #[.int .i64 (bl : Int), .int .i64 (bd : Int)] := hA.at 118 (by kernel_rfl)
            have HO6 : Hid (One Fin w0 w6 γ a d n p) := HT5.out.one.new S hj
            clear hA hj HT5 HBX HBEST
            go_simp
            refine hK.out _ _ ?_
            clear hK e117 e118 K
            by_cases hpl : p < L
            · have hq : decide (p < L) = true := decide_eq_true hpl
              have hq' : decide ((p : Int) < (L : Int)) = true := by simp; omega
              go_wp2_with fail
              refine (S.skipIn γ w0.heap.size a d n p 1 w6 HO6.out.fin HO6.out.chg.size (by have := HDL.out; omega)).mono ?_
              rintro z w7 ⟨rfl, γ7, hf7, hn7⟩
              have HO7 : Hid (One Fin w0 w7 γ7 a d n (min (p + 1) L)) := by rw [show min (p + 1) L = p + 1 by omega]; exact HO6.out.go S hf7 hn7
              clear hf7 hn7 HO6
              go_wp2_with fail
              refine (num_any _ _).mono ?_
              rintro z w8 ⟨rfl, rfl⟩
              go_wp2_with fail
              go_roundw
              case rel => exact ⟨p + 1, γ7, by omega, by go_num, HO7.out⟩
              case measure => simp [intOf]; omega
            · have hq : decide (p < L) = false := decide_eq_false hpl
              have hq' : decide ((p : Int) < (L : Int)) = false := by simp; omega
              go_wp2_with fail
              refine (S.skipOut γ w0.heap.size a d n p 1 w6 HO6.out.fin (by unfold I64; omega) (.inr (by have := HDL.out; omega))).mono ?_
              rintro z w7 ⟨rfl, c7⟩
              have HO7 : Hid (One Fin w0 w7 γ a d n (min (p + 1) L)) := by rw [show min (p + 1) L = p by omega]; exact HO6.out.new S c7
              clear c7 HO6
              go_wp2_with fail
              refine (num_any _ _).mono ?_
              rintro z w8 ⟨rfl, rfl⟩
              go_wp2_with fail
              go_roundw
              case rel => exact ⟨p + 1, γ, by omega, by go_num, HO7.out⟩
              case measure => simp [intOf]; omega
    · have hdp : decide (p ≤ L) = false := decide_eq_false hlt
      have hdp' : decide ((p : Int) ≤ (L : Int)) = false := by simp; omega
      go_wp2_with fail
      refine (known_any S wr).mono ?_
      rintro z w9 ⟨rfl, c9⟩
      have HC9 : Hid (Chg (fun _ => False) w0 w9) := chg_then HOm.out.chg c9
      clear c9
      go_wp2
      go_ret
      exact ⟨rfl, HC9.out⟩
end Go.Proofs.Ytkdionoelbiidaa
