/- The contract of step at Fork; of no statement by itself. -/
import Derived.Test.YtloenokbkmhceaaMade
import Derived.Test.YtloenokbkmhceaaLastP
import Derived.Test.YtloenokbkmhceaaMoves
import Derived.Great.BuildSlice
namespace Go.Proofs.Ytloenokbkmhceaa
open Go.RowKit
set_option linter.unusedVariables false
theorem Play.push2 {w0 w w' : World} {P : Nat} {av bv av' bv' : Value} {its : List It} {x : It} (h : Play w0 w P av bv its) (hc2 : Chg (Grows P av bv) w w') (hx : Good w' w0.heap.size x) (ha : w.heap.size ≤ x.a) (hr : w.heap.size ≤ x.r) (hv : ∀ g, x.v.ownBlock = some g → w.heap.size ≤ g) (hu : ∀ g, x.u.ownBlock = some g → w.heap.size ≤ g)
    (hp : w'.heap[P]? = some (.cells #[av', bv'] 46 (0, 0))) (hoa : w'.ownsRow w0.heap.size 28 1 av' (its.length + 1) (its.map ptrA ++ [ptrA x])) (hob : w'.ownsRow w0.heap.size 54 1 bv' (its.length + 1) (its.map ptrR ++ [ptrR x])) : Play w0 w' P av' bv' (its ++ [x]) := by
  have miss : ∀ z, Grows P av bv z → ∀ {cs : Array Value} {t : TypeId}, w.heap[z]? = some (.cells cs t (0, 0)) → t ≠ 46 → t ≠ 28 → t ≠ 54 → False := fun z f cs t hb n1 n2 n3 => by
    rcases f with rfl | f | f
    · exact ty_ne hb h.pair n1
    · obtain ⟨cur, hcur⟩ := owns_blk h.ra f
      exact ty_ne hb hcur n2
    · obtain ⟨cur, hcur⟩ := owns_blk h.rb f
      exact ty_ne hb hcur n3
  have key : ∀ y, Good w w0.heap.size y → Good w' w0.heap.size y := fun y gy => by
    refine gy.keep hc2 (fun f => miss _ f gy.st.blk (by decide) (by decide) (by decide)) (fun f => miss _ f gy.rt.blk (by decide) (by decide) (by decide)) (fun g e f => ?_) (fun g e f => ?_)
    · obtain ⟨cs, h2⟩ := gy.vb e
      exact miss _ f h2 (by decide) (by decide) (by decide)
    · obtain ⟨cs, h2⟩ := gy.ub e
      exact miss _ f h2 (by decide) (by decide) (by decide)
  have old : ∀ i (hi : i < its.length), Apart its[i] x ∧ Apart x its[i] := fun i hi => by
    have gi := h.good i hi
    have l1 := lt_of_blk gi.st.blk
    have l2 := lt_of_blk gi.rt.blk
    refine ⟨⟨by omega, by omega, fun g e f => ?_, fun g e f => ?_⟩, ⟨by omega, by omega, fun g e f => ?_, fun g e f => ?_⟩⟩
    · have := (gi.st.own.lt g e).2
      have := hv g f
      omega
    · have := (gi.rt.own.lt g e).2
      have := hu g f
      omega
    · have := (gi.st.own.lt g f).2
      have := hv g e
      omega
    · have := (gi.rt.own.lt g f).2
      have := hu g e
      omega
  refine ⟨h.chg.trans hc2 (fun z f => .inr ?_), h.hP, hp, by simpa using hoa, by simpa using hob, fun i hi => ?_, fun i j hi hj hne => ?_⟩
  · rcases f with rfl | f | f
    · exact h.hP
    · exact (h.ra.lt z f).1
    · exact (h.rb.lt z f).1
  · by_cases e : i < its.length
    · rw [List.getElem_append_left e]
      exact key _ (h.good i e)
    · have e2 : i = its.length := by simp at hi; omega
      subst e2
      rw [List.getElem_append_right (Nat.le_refl _)]
      simpa using hx
  · by_cases ei : i < its.length
    · by_cases ej : j < its.length
      · rw [List.getElem_append_left ei, List.getElem_append_left ej]
        exact h.apart i j ei ej hne
      · have e2 : j = its.length := by simp at hj; omega
        subst e2
        rw [List.getElem_append_left ei, List.getElem_append_right (Nat.le_refl _)]
        simpa using (old i ei).1
    · have e2 : i = its.length := by simp at hi; omega
      subst e2
      have ej : j < its.length := by simp at hj; omega
      rw [List.getElem_append_left ej, List.getElem_append_right (Nat.le_refl _)]
      simpa using (old j ej).2


theorem Two.miss {w0 w : World} {P : Nat} {av bv : Value} {la lb : List Value} (h : Two w0 w P av bv la lb) {z : Nat} (f : Grows P av bv z) {cs : Array Value} {t : TypeId} (hb : w.heap[z]? = some (.cells cs t (0, 0))) (n1 : t ≠ 46) (n2 : t ≠ 28) (n3 : t ≠ 54) : False := by
  rcases f with rfl | f | f
  · exact ty_ne hb h.pair n1
  · obtain ⟨cur, hcur⟩ := owns_blk h.ra f
    exact ty_ne hb hcur n2
  · obtain ⟨cur, hcur⟩ := owns_blk h.rb f
    exact ty_ne hb hcur n3
theorem Two.st {w0 w w' : World} {P : Nat} {av bv : Value} {la lb : List Value} (h : Two w0 w P av bv la lb) (hc : Chg (Grows P av bv) w w') {B a : Nat} {v : Value} {xs : List Int} (hS : St w B a v xs) : St w' B a v xs :=
  hS.keep hc (fun f => h.miss f hS.blk (by decide) (by decide) (by decide)) (fun g e f => by obtain ⟨cs, hb⟩ := owns_blk hS.own e; exact h.miss f hb (by decide) (by decide) (by decide))
theorem Two.rt {w0 w w' : World} {P : Nat} {av bv : Value} {la lb : List Value} (h : Two w0 w P av bv la lb) (hc : Chg (Grows P av bv) w w') {B r : Nat} {n : Int} {v : Value} {xs : List Int} (hR : Rt w B r n v xs) : Rt w' B r n v xs :=
  hR.keep hc (fun f => h.miss f hR.blk (by decide) (by decide) (by decide)) (fun g e f => by obtain ⟨cs, hb⟩ := owns_blk hR.own e; exact h.miss f hb (by decide) (by decide) (by decide))

/-- The document's fork under way: before, behind the call, behind the list of one, behind the append. -/
def ForkJ (w0 W : World) (bv : Value) (N : Nat) (LB : List Value) (nn : Int) (xs : List Int) (x y z : Value) : Nat → World → Prop
  | 0, w => Chg (fun _ => False) W w
  | 1, w => Chg (fun _ => False) W w ∧ ∃ r u, x = .pointer (some ⟨r, 0, none⟩) ∧ W.heap.size ≤ r ∧ Rt w W.heap.size r nn u xs
  | 2, w => Chg (fun _ => False) W w ∧ ∃ r u c, W.heap.size ≤ r ∧ Rt w W.heap.size r nn u xs ∧ y = .slice (some ⟨c, 0, none⟩) 1 1 ∧ From w (some ⟨c, 0, none⟩) 1 1 1 [.pointer (some ⟨r, 0, none⟩)]
  | _, w => ∃ r u w1, Chg (fun _ => False) W w1 ∧ W.heap.size ≤ r ∧ Rt w1 W.heap.size r nn u xs ∧ w.ownsRow w0.heap.size 54 1 z (N + 1) (LB ++ [.pointer (some ⟨r, 0, none⟩)]) ∧ w1.grownBy w bv.ownBlock

set_option maxHeartbeats 4000000 in
set_option maxRecDepth 100000 in
theorem step_fork (w0 w : World) (P : Nat) (av bv : Value) (its : List It) (s : Nat) (i b : Int) (h : Play w0 w P av bv its) (hs : s < its.length) (hn : its.length ≤ 4398046510976) : Calls Try.prog 19 #[.pointer (some ⟨P, 0, none⟩), .agg #[.int .i64 4, .int .i64 (s : Int), .int .i64 i, .int .i64 b]] w fun e w' => e = .returned (.bool true) ∧ ∃ av' bv' x, Play w0 w' P av' bv' (its ++ [x]) := by
  have hs0 : w0.heap.size ≤ w.heap.size := h.chg.size
  have hPl := lt_of_blk h.pair
  have hdS : decide ((s : Int) < 0) = false := by simp
  have hdL : decide (its.length ≤ s) = false := by simp; omega
  have hcW := chg_one w (.cells #[.int .i64 4, .int .i64 (s : Int), .int .i64 i, .int .i64 b] 50)
  have hb := heap_alloc_last w (.cells #[.int .i64 4, .int .i64 (s : Int), .int .i64 i, .int .i64 b] 50)
  obtain ⟨ga, capa, hav, hcapa, hA⟩ := h.a_at (by omega)
  obtain ⟨gb, capb, hbv, hcapb, hB⟩ := h.b_at (by omega)
  have pa := cell_chg (cell0 h.pair) hcW
  have pb := cell_chg (cell1 h.pair) hcW
  have xa := cell_chg (hA s hs) hcW
  have xb := cell_chg (hB s hs) hcW
  rw [hav] at pa
  rw [hbv] at pb
  have HP : Hid (Play w0 w P av bv its) := h
  have HFO : Hid (∀ z, Foots its[s] z → z ≠ w.heap.size) := fun z f => by
    rcases f with f | f
    · have := ((h.good s hs).st.own.lt z f).2
      omega
    · have := ((h.good s hs).rt.own.lt z f).2
      omega
  clear h hA hB hav hbv
  go_enter Try.func19, Try.ntmps19
  go_wp2_with fail
  have c0 : (w.alloc (.cells #[.int .i64 4, .int .i64 (s : Int), .int .i64 i, .int .i64 b] 50)).cell? ⟨w.heap.size, 0, none⟩ = some (.int .i64 4) := by simp only [World.cell?, hb]; rfl
  have c1 : (w.alloc (.cells #[.int .i64 4, .int .i64 (s : Int), .int .i64 i, .int .i64 b] 50)).cell? ⟨w.heap.size, 1, none⟩ = some (.int .i64 (s : Int)) := by simp only [World.cell?, hb]; rfl
  have c2 : (w.alloc (.cells #[.int .i64 4, .int .i64 (s : Int), .int .i64 i, .int .i64 b] 50)).cell? ⟨w.heap.size, 2, none⟩ = some (.int .i64 i) := by simp only [World.cell?, hb]; rfl
  have c3 : (w.alloc (.cells #[.int .i64 4, .int .i64 (s : Int), .int .i64 i, .int .i64 b] 50)).cell? ⟨w.heap.size, 3, none⟩ = some (.int .i64 b) := by simp only [World.cell?, hb]; rfl
  have HC : Hid (Chg (fun _ => False) w (w.alloc (.cells #[.int .i64 4, .int .i64 (s : Int), .int .i64 i, .int .i64 b] 50))) := hcW
  clear hb hcW
  generalize w.alloc (.cells #[.int .i64 4, .int .i64 (s : Int), .int .i64 i, .int .i64 b] 50) = W1 at *
  generalize w.heap.size = O at *
  go_quiet (fail)
  have HC2 : Hid (Chg (fun _ => False) w (W1.drewN nq)) := chg_then HC.out (chg_drewN W1 nq)
  have c02 := cell_chg c0 (chg_drewN W1 nq)
  have c12 := cell_chg c1 (chg_drewN W1 nq)
  have c22 := cell_chg c2 (chg_drewN W1 nq)
  have c32 := cell_chg c3 (chg_drewN W1 nq)
  have pa2 := cell_chg pa (chg_drewN W1 nq)
  have pb2 := cell_chg pb (chg_drewN W1 nq)
  have xa2 := cell_chg xa (chg_drewN W1 nq)
  have xb2 := cell_chg xb (chg_drewN W1 nq)
  clear c0 c1 c2 c3 pa pb xa xb HC
  generalize W1.drewN nq = W2 at *
  go_wp2_with fail
  go_quiet (fail)
  have HC3 : Hid (Chg (fun _ => False) w (W2.drewN nq)) := chg_then HC2.out (chg_drewN W2 nq)
  have c03 := cell_chg c02 (chg_drewN W2 nq)
  have c13 := cell_chg c12 (chg_drewN W2 nq)
  have c23 := cell_chg c22 (chg_drewN W2 nq)
  have c33 := cell_chg c32 (chg_drewN W2 nq)
  have pa3 := cell_chg pa2 (chg_drewN W2 nq)
  have pb3 := cell_chg pb2 (chg_drewN W2 nq)
  have xa3 := cell_chg xa2 (chg_drewN W2 nq)
  have xb3 := cell_chg xb2 (chg_drewN W2 nq)
  clear c02 c12 c22 c32 pa2 pb2 xa2 xb2 HC2
  generalize W2.drewN nq = W3 at *
  go_wp2_with fail
  go_quiet (fail)
  have HC4 : Hid (Chg (fun _ => False) w (W3.drewN nq)) := chg_then HC3.out (chg_drewN W3 nq)
  have c04 := cell_chg c03 (chg_drewN W3 nq)
  have c14 := cell_chg c13 (chg_drewN W3 nq)
  have c24 := cell_chg c23 (chg_drewN W3 nq)
  have c34 := cell_chg c33 (chg_drewN W3 nq)
  have pa4 := cell_chg pa3 (chg_drewN W3 nq)
  have pb4 := cell_chg pb3 (chg_drewN W3 nq)
  have xa4 := cell_chg xa3 (chg_drewN W3 nq)
  have xb4 := cell_chg xb3 (chg_drewN W3 nq)
  clear c03 c13 c23 c33 pa3 pb3 xa3 xb3 HC3
  generalize W3.drewN nq = W4 at *
  have HP4 : Hid (Play w0 W4 P av bv its) := HP.out.new HC4.out
  clear xa4 xb4 pa4 pb4
  go_wp2_with fail
  obtain ⟨i0, hi, hz0, hz1, hz2⟩ := info_parts infoPS
  obtain ⟨i1, hi', hz0', hz1', hz2'⟩ := info_parts infoPR
  have hG := HP4.out.good s hs
  have hlen := hG.len
  refine (fork_any _ _ _ _ _ hG.st hG.len).mono ?_
  rintro e W5 ⟨a, v, rfl, ha, h5, c5⟩
  have HG5 : Hid (Good W5 w0.heap.size its[s]) := hG.new c5
  have HP5 := HP4.out.new c5
  have HC5 : Hid (Chg (fun _ => False) W4 W5) := c5
  have HS5 : Hid (St W5 W4.heap.size a v its[s].xs) := h5
  have T5 := HP5.two
  have hs4 : w0.heap.size ≤ W4.heap.size := HP4.out.chg.size
  have hs5 : w0.heap.size ≤ W5.heap.size := HP5.chg.size
  have HS45 : Hid (W4.heap.size ≤ W5.heap.size) := c5.size
  clear c5 h5 hG HP5 c04 c14 c24 c34
  have hLa : (its.map ptrA).length = its.length := by simp
  have hLb : (its.map ptrR).length = its.length := by simp
  obtain ⟨aad, acap, hav, _⟩ := own_any T5.ra
  obtain ⟨bad, bcap, hbv, _⟩ := own_any T5.rb
  rw [hLa] at hav
  rw [hLb] at hbv
  have HT5 : Hid (Two w0 W5 P av bv (its.map ptrA) (its.map ptrR)) := T5
  have HAV : Hid (av = .slice aad its.length acap) := hav
  have HBV : Hid (bv = .slice bad its.length bcap) := hbv
  rw [hav] at T5
  have pa := cell0 T5.pair
  have la := lt_of_blk T5.pair
  have hra := T5.ra.alloc (.cells #[.pointer (some ⟨a, 0, none⟩)] 28)
  rw [hLa] at hra
  clear T5 hav hbv hLa hLb
  generalize hLA : its.map ptrA = LA at *
  generalize hLB : its.map ptrR = LB at *
  have HLA : Hid (its.map ptrA = LA) := hLA
  have HLB : Hid (its.map ptrR = LB) := hLB
  clear hLA hLB
  have HA : Hid (LA.length = its.length) := by show _ = _; rw [← HLA.out]; simp
  have HB : Hid (LB.length = its.length) := by show _ = _; rw [← HLB.out]; simp
  have hfr1 := from_one W5 (.pointer (some ⟨a, 0, none⟩)) 28
  have ho1 := one_ptr (.pointer (some ⟨a, 0, none⟩)) rfl
  have hsz1 : w0.heap.size ≤ (W5.alloc (.cells #[.pointer (some ⟨a, 0, none⟩)] 28)).heap.size := by simp; omega
  go_wp2_with (at_builtin; refine wpList_append_moved rfl _ _ 43 rfl w0.heap.size 28 i0 (.pointer none) 1 8 Try.underlying43 hi hz0 hz1 hz2 rfl (by decide) _ its.length LA rfl (some ⟨W5.heap.size, 0, none⟩) 1 1 rfl [.pointer (some ⟨a, 0, none⟩)] hra hfr1 ho1 (by unfold maxLen; omega) (by omega) hsz1 ?_)
  intro v7 w7 ho7 hg7 hm7
  rw [← HAV.out] at hg7
  obtain ⟨hp7, T8, c8⟩ := HT5.out.a (chg_one W5 (.cells #[.pointer (some ⟨a, 0, none⟩)] 28)) (by rw [HA.out]; exact ho7) hg7
  obtain ⟨ad7, cap7, hv7, _⟩ := own_any ho7
  have HT8 : Hid (Two w0 (w7.setCell ⟨P, 0, none⟩ v7) P v7 bv (LA ++ [.pointer (some ⟨a, 0, none⟩)]) LB) := T8
  have HC8 : Hid (Chg (Grows P av bv) W5 (w7.setCell ⟨P, 0, none⟩ v7)) := c8
  have hs8 : w0.heap.size ≤ (w7.setCell ⟨P, 0, none⟩ v7).heap.size := by have := c8.size; omega
  have HS58 : Hid (W5.heap.size ≤ (w7.setCell ⟨P, 0, none⟩ v7).heap.size) := c8.size
  have HS8 : Hid (St (w7.setCell ⟨P, 0, none⟩ v7) W4.heap.size a v its[s].xs) := HT5.out.st c8 HS5.out
  have HR8 : Hid (Rt (w7.setCell ⟨P, 0, none⟩ v7) w0.heap.size its[s].r its[s].n its[s].u its[s].xs) := HT5.out.rt c8 HG5.out.rt
  have p0 : w7.cell? ⟨P, 0, none⟩ = some av := cell0 hp7
  have f0 : w7.frozen? ⟨P, 0, none⟩ = false := free0 hp7
  have pb8 : (w7.setCell ⟨P, 0, none⟩ v7).cell? ⟨P, 1, none⟩ = some bv := cell1 T8.pair
  rw [HBV.out] at pb8
  subst hv7
  clear ho7 hg7 hm7 T8 c8 hra hfr1 ho1 hsz1 pa la hp7 HT5
  go_wp2_with fail
  generalize w7.setCell ⟨P, 0, none⟩ (.slice ad7 (its.length + 1) cap7) = W8 at *
  rw [HBV.out] at HT8
  clear p0 f0
  refine wp_region_phase (mk := fun u => #[_, _, _, _, _, _, _, _, _, _, _, _, _, _, _, _, _, _, _, _, _, _, _, _, _, _, _, _, _, _, _, _, _, _, _, _, _, _, _, _, _, _, _, _, _, _, _, _, _, _, _, _, _, _, _, _, _, _, _, _, _, _, _, _, _, _, _, _, _, _, _, _, _, _, _, _, _, _, _, _, _, _, _, _, _, _, _, _, _, _, _, _, _, _, _, _, _, _, _, _, _, _, _, _, _, _, _, _, _, _, _, u 111, u 112, u 113, u 114, u 115, u 116, u 117, u 118, u 119, u 120, u 121, _, _, _, _, _, _, _, _, _, _]) (G := lookG [(111, .pointer (some ⟨P, 0, none⟩)), (112, .pointer (some ⟨P, 0, none⟩)), (113, .pointer (some ⟨P, 0, none⟩)), (114, .pointer (some ⟨P, 1, none⟩)), (115, .slice bad its.length bcap), (116, .pointer (some ⟨its[s].r, 0, none⟩)), (120, .pointer (some ⟨P, 0, none⟩)), (121, .pointer (some ⟨P, 1, none⟩))]) (J := fun q u w => w.cell? ⟨P, 1, none⟩ = some (.slice bad its.length bcap) ∧ ForkJ w0 W8 (.slice bad its.length bcap) its.length LB its[s].n its[s].xs (u 117) (u 118) (u 119) q w) [6, 7, 8] (fun _ => undef) rfl (by kernel_rfl) 11 _ rfl rfl (by kernel_rfl) (by kernel_rfl) (by kernel_rfl) (by decide) ?_ ?_ ?_ ?_ ?_
  · repeat (refine ⟨⟨_, rfl, fun _ _ => rfl⟩, ?_⟩)
    exact trivial
  · intro q u u2 w h hj
    have e117 : u 117 = u2 117 := h 6 (by decide)
    have e118 : u 118 = u2 118 := h 7 (by decide)
    have e119 : u 119 = u2 119 := h 8 (by decide)
    show _ ∧ ForkJ w0 W8 (.slice bad its.length bcap) its.length LB its[s].n its[s].xs (u2 117) (u2 118) (u2 119) q w
    rw [← e117, ← e118, ← e119]
    exact hj
  · exact ⟨cell_chg pb8 (Chg.refl _ W8).drew, (Chg.refl _ W8).drew⟩
  · refine ⟨?_, ?_, ?_, ?_, ?_, ?_, ?_, ?_, ?_, ?_, ?_, trivial⟩
    · show StepR _ _ _ _ _ _  _ -- 111
      unfold StepR
      intro q u w hj hd K hK
      clear hd
      go_simp
      exact hK.out (.pointer (some ⟨P, 0, none⟩)) rfl
    · show StepR _ _ _ _ _ _  _ -- 112
      unfold StepR
      intro q u w hj hd K hK
      clear hd
      go_simp
      exact hK.out (.pointer (some ⟨P, 0, none⟩)) rfl
    · show StepR _ _ _ _ _ _  _ -- 113
      unfold StepR
      intro q u w hj hd K hK
      have h112 : u 112 = .pointer (some ⟨P, 0, none⟩) := hd.get 1 (by kernel_rfl)
      clear hd
      simp only [h112] at hK
      go_simp
      exact hK.out (.pointer (some ⟨P, 0, none⟩)) rfl
    · show StepR _ _ _ _ _ _  _ -- 114
      unfold StepR
      intro q u w hj hd K hK
      have h113 : u 113 = .pointer (some ⟨P, 0, none⟩) := hd.get 2 (by kernel_rfl)
      clear hd
      simp only [h113] at hK
      go_simp
      exact hK.out (.pointer (some ⟨P, 1, none⟩)) rfl
    · show StepR _ _ _ _ _ _  _ -- 115
      unfold StepR
      intro q u w hj hd K hK
      have h114 : u 114 = .pointer (some ⟨P, 1, none⟩) := hd.get 3 (by kernel_rfl)
      clear hd
      simp only [h114] at hK
      have hcell := hj.1
      go_simp
      exact hK.out _ rfl
    · show StepR _ _ _ _ _ _  _ -- 116
      unfold StepR
      intro q u w hj hd K hK
      clear hd
      go_simp
      exact hK.out (.pointer (some ⟨its[s].r, 0, none⟩)) rfl
    · show StepW _ _ _ _ _ _ 0 _ -- 117
      unfold StepW
      intro u w hj hd K hK
      have h116 : u 116 = .pointer (some ⟨its[s].r, 0, none⟩) := hd.get 5 (by kernel_rfl)
      clear hd
      simp only [h116] at hK
      obtain ⟨k, hc⟩ := hj
      go_simp
      go_at_call 32
      refine (rfork_any _ _ _ _ _ w (HR8.out.new hc) hlen).mono ?_
      rintro e w2 ⟨r, u2, rfl, hr, h2, c2⟩
      exact hK.out _ w2 ⟨cell_chg k c2, chg_then hc c2, r, u2, rfl, Nat.le_trans hc.size hr, ⟨Nat.le_trans hc.size hr, h2.blk, owns_base h2.own hc.size⟩⟩ trivial
    · show StepW _ _ _ _ _ _ 1 _ -- 118
      unfold StepW
      intro u w hj hd K hK
      clear hd
      obtain ⟨k, hc, r, u2, e117, hr, hR⟩ := hj
      simp only [e117] at hK
      go_simp
      have c1 := chg_one w (.cells #[.pointer (some ⟨r, 0, none⟩)] 54)
      exact hK.out _ _ ⟨cell_chg k c1, chg_then hc c1, r, u2, _, hr, hR.new c1, rfl, from_one w _ _⟩ trivial
    · show StepW _ _ _ _ _ _ 2 _ -- 119
      unfold StepW
      intro u w hj hd K hK
      have h115 : u 115 = .slice bad its.length bcap := hd.get 4 (by kernel_rfl)
      clear hd
      obtain ⟨k, hc, r, u2, c, hr, hR, e118, hF⟩ := hj
      have hrb := ownsRow_keep HT8.out.rb hc (fun _ _ f => f)
      rw [HB.out] at hrb
      refine step_append_moved (a := ⟨_, []⟩) (by rfl) (.tmp 115) (.tmp 118) 44 (by rfl) w0.heap.size 54 i1 (.pointer none) 1 8 Try.underlying44 hi' hz0' hz1' hz2' rfl (by decide) (.slice bad its.length bcap) its.length LB (by exact h115) (some ⟨c, 0, none⟩) 1 1 (by exact e118) [.pointer (some ⟨r, 0, none⟩)] hrb hF (one_ptr _ rfl) (by unfold maxLen; omega) (by omega) (by have := hc.size; omega) ?_
      intro v5 w5 ho hg hm
      exact hK.out v5 w5 ⟨cell1 (HT8.out.b hc (by rw [HB.out]; exact ho) hg).1, r, u2, w, hc, hr, hR, ho, hg⟩ trivial
    · show StepR _ _ _ _ _ _  _ -- 120
      unfold StepR
      intro q u w hj hd K hK
      have h111 : u 111 = .pointer (some ⟨P, 0, none⟩) := hd.get 0 (by kernel_rfl)
      clear hd
      simp only [h111] at hK
      go_simp
      exact hK.out (.pointer (some ⟨P, 0, none⟩)) rfl
    · show StepR _ _ _ _ _ _  _ -- 121
      unfold StepR
      intro q u w hj hd K hK
      have h120 : u 120 = .pointer (some ⟨P, 0, none⟩) := hd.get 9 (by kernel_rfl)
      clear hd
      simp only [h120] at hK
      go_simp
      exact hK.out (.pointer (some ⟨P, 1, none⟩)) rfl
  · intro u w hj hA K hK
    have e121 : u 121 = .pointer (some ⟨P, 1, none⟩) := hA.at 121 (by kernel_rfl)
    clear hA
    obtain ⟨k, r, u2, w1, hc, hr, hR, ho, hg⟩ := hj
    obtain ⟨hp9, T9, c9⟩ := HT8.out.b hc (by rw [HB.out]; exact ho) hg
    obtain ⟨ad9, cap9, e119, _⟩ := own_any ho
    rw [e119] at T9 c9 ho
    have k1 := cell1 hp9
    have k2 := free1 hp9
    have c9' : Chg (Grows P av bv) W8 (w.setCell ⟨P, 1, none⟩ (.slice ad9 (its.length + 1) cap9)) := c9.mono (fun i e => .inl (by
      rw [HBV.out]
      rcases e with e | e
      · exact .inl e
      · exact .inr (.inr e)))
    have hT1 := HT8.out.new hc
    have cw : Chg (Grows P (.slice ad7 (its.length + 1) cap7) (.slice bad its.length bcap)) w1 (w.setCell ⟨P, 1, none⟩ (.slice ad9 (its.length + 1) cap9)) := by
      have g1 : Chg (fun z => (Value.slice bad its.length bcap).ownBlock = some z) w1 w := (Chg.refl _ w1).grown hg (fun k e => .inl e)
      have g2 : Chg (fun z => z = P) w (w.setCell ⟨P, 1, none⟩ (.slice ad9 (its.length + 1) cap9)) := (Chg.refl (fun z => z = P) w).setCell (p := ⟨P, 1, none⟩) (.inl rfl) _
      exact (g1.mono (T := Grows P (.slice ad7 (its.length + 1) cap7) (.slice bad its.length bcap)) (fun _ e => .inl (.inr (.inr e)))).trans g2 (fun _ e => .inl (.inl e))
    have hRf := hT1.rt cw hR
    have hSf := HT8.out.st (cw.mono (fun i e => .inl e) |> fun cw2 => ((hc.mono (T := Grows P (.slice ad7 (its.length + 1) cap7) (.slice bad its.length bcap)) (fun _ f => f.elim)).trans cw2 (fun i e => .inl e))) HS8.out
    have hsA := HS45.out
    have hsB := HS58.out
    have HPF : Hid (Play w0 (w.setCell ⟨P, 1, none⟩ (.slice ad9 (its.length + 1) cap9)) P (.slice ad7 (its.length + 1) cap7) (.slice ad9 (its.length + 1) cap9) (its ++ [⟨a, r, v, its[s].n, u2, its[s].xs⟩])) := by
      refine HP4.out.push2 (((HC5.out.mono (T := Grows P av bv) (fun _ f => f.elim)).trans HC8.out (fun i e => .inl e)).trans c9' (fun i e => .inl e)) ⟨⟨by show w0.heap.size ≤ a; omega, hSf.blk, owns_base hSf.own hs4⟩, ⟨by show w0.heap.size ≤ r; omega, hRf.blk, owns_base hRf.own hs8⟩, HG5.out.inn, hlen⟩ ha (by show W4.heap.size ≤ r; omega) (fun g e => (hSf.own.lt g e).1) (fun g e => by have := (hRf.own.lt g e).1; omega) T9.pair ?_ ?_
      · have h := T9.ra
        rw [List.length_append, HA.out] at h
        rw [HLA.out]
        exact h
      · have h := T9.rb
        rw [List.length_append, HB.out] at h
        rw [HLB.out]
        exact h
    clear T9 c9 c9' hT1 cw hRf hSf hR ho hg hc hp9
    go_simp
    refine hK.out _ _ ?_
    generalize w.setCell ⟨P, 1, none⟩ (.slice ad9 (its.length + 1) cap9) = W9 at *
    go_simp
    go_wp2
    go_ret
    exact ⟨rfl, _, _, _, HPF.out⟩

end Go.Proofs.Ytloenokbkmhceaa
