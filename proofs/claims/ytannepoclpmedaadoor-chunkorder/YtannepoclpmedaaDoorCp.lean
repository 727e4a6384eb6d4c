/- Two rows in turns: the walk of ChunkOrder; of no statement by itself. -/
import Derived.Test.YtannepoclpmedaaDoorCo
namespace Go.Proofs.YtannepoclpmedaaDoor
open Go.RowKit
open St12
set_option linter.unusedVariables false
set_option linter.unusedSimpArgs false
variable {Tab : World → Prop} {Od : World → Nat → Nat → (Nat → Prop) → List Int → Prop}
theorem pO_ne (x : Addr) (w : World) : (binOp .eql 46 (.pointer (some x)) (.pointer none)).run Tryd.prog w = .ok (.bool false) w := by kernel_rfl
theorem cells2o {w : World} {a : Nat} {x y : Value} {t : TypeId} (h : w.heap[a]? = some (.cells #[x, y] t (0, 0))) : w.cell? ⟨a, 0, none⟩ = some x ∧ w.cell? ⟨a, 1, none⟩ = some y ∧ w.frozen? ⟨a, 0, none⟩ = false ∧ w.frozen? ⟨a, 1, none⟩ = false := ⟨cell0 h, cell1 h, free0 h, free1 h⟩
/-- What Ended must answer of a row. -/
theorem last_of {w : World} {B n c : Nat} {ad : Option Addr} {l : List Int} (h : w.ownsRow B 3 1 (.slice ad n c) n (ins .i64 l)) (hc : Ck17.Came l) (hl : l.length = n) : (n = 0 ∧ decide ((0 : Int) ∈ l) = false) ∨ ∃ K g x, n = K + 1 ∧ ad = some ⟨g, 0, none⟩ ∧ w.cell? ⟨g, K, none⟩ = some (.int .i64 x) ∧ decide ((0 : Int) ∈ l) = (x == 0) := by
  rcases Nat.eq_zero_or_pos n with e | e
  · left
    have : l = [] := List.eq_nil_of_length_eq_zero (by omega)
    subst this
    exact ⟨e, by simp⟩
  · right
    obtain ⟨x, hx⟩ : ∃ x, l[l.length - 1]? = some x := ⟨_, List.getElem?_eq_getElem (by omega)⟩
    obtain ⟨b, off, e1, h1⟩ := intC_own h _ x hx
    have hg : ∃ g, ad = some ⟨g, 0, none⟩ := by
      rcases h.2 with ⟨e0, e2⟩ | ⟨g, cap, cur, e0, _⟩
      · omega
      · simp only [Value.slice.injEq] at e0
        exact ⟨g, e0.1⟩
    obtain ⟨g, e2⟩ := hg
    rw [e2] at e1
    injection e1 with e1
    simp only [Addr.mk.injEq, and_true] at e1
    obtain ⟨rfl, rfl⟩ := e1
    refine ⟨n - 1, g, x, by omega, e2, by rw [Nat.zero_add, hl] at h1; exact h1, ?_⟩
    have := Ck17.came_last hc hx
    by_cases q : x = 0
    · rw [decide_eq_true (this.2 q)]; simp [q]
    · rw [decide_eq_false (fun hm => q (this.1 hm))]; simp [q]
set_option maxHeartbeats 32000000 in
set_option maxRecDepth 100000 in
theorem order_any (S : OrderSpec Tab Od) (C : ChunkSpec Tab) (ad1 ad2 : Option Addr) (n c1 m2 c2 : Nat) (ks : List Int) (ts : List Bool) (hks : ks.length = n) (hts : ts.length = m2) (hn : n ≤ 17592186043904) (hm2 : m2 ≤ 140737488351232) (hki : ∀ k ∈ ks, I64 k) (w0 : World) (hT : Tab w0) (hi1 : IntC w0 ad1 ks) (hi2 : ∀ (k : Nat) (x : Bool), ts[k]? = some x → ∃ b off, ad2 = some ⟨b, off, none⟩ ∧ w0.cell? ⟨b, off + k, none⟩ = some (.bool x)) : Calls Tryd.prog 7 #[.slice ad1 n c1, .slice ad2 m2 c2] w0 fun e w' => e = .returned (.bool true) ∧ Chg (fun _ => False) w0 w' := by
  obtain ⟨ii, hif, hz0, hz1, hz2⟩ := info_parts infoInt
  have HT : Hid (Tab w0) := hT
  have HN : Hid (∀ x ww, Calls Tryd.prog 10 #[.int .i64 x] ww fun e w' => e = .returned (.int .i64 x) ∧ w' = ww) := num_q
  have HI1 : Hid (IntC w0 ad1 ks ∧ ∀ k ∈ ks, I64 k) := ⟨hi1, hki⟩
  have HI2 : Hid (∀ (k : Nat) (x : Bool), ts[k]? = some x → ∃ b off, ad2 = some ⟨b, off, none⟩ ∧ w0.cell? ⟨b, off + k, none⟩ = some (.bool x)) := hi2
  have HL1 : Hid (ks.length = n) := hks
  have HL2 : Hid (ts.length = m2) := hts
  have hni : (n : Int) ≤ 17592186043904 := by omega
  have hmi : (m2 : Int) ≤ 140737488351232 := by omega
  have hpo := pO_ne
  have H1 : Hid _ := S.new w0 hT
  clear hT hi1 hi2 hks hts hki
  go_enter Tryd.func7, Tryd.ntmps7
  go_wp2_with fail
  refine Calls.mono H1.out ?_
  rintro z w1 ⟨a, F, rfl, ho1, cc1⟩
  have HO1 : Hid (Od w1 w0.heap.size a F []) := ho1
  have HC1 : Hid (Chg (fun _ => False) w0 w1) := cc1
  have H2 : Hid _ := S.new w1 (S.tab HT.out HT.out cc1 (fun _ f => f.elim))
  clear ho1 cc1 H1
  go_wp2_with fail
  refine Calls.mono H2.out ?_
  rintro z w2 ⟨b, G, rfl, ho2, cc2⟩
  have c3 := chg_one w2 (.cells #[.pointer (some ⟨a, 0, none⟩), .pointer (some ⟨b, 0, none⟩)] 46)
  have b3 := heap_alloc_last w2 (.cells #[.pointer (some ⟨a, 0, none⟩), .pointer (some ⟨b, 0, none⟩)] 46)
  have e3 : (w2.alloc (.cells #[.pointer (some ⟨a, 0, none⟩), .pointer (some ⟨b, 0, none⟩)] 46)).heap.size = w2.heap.size + 1 := by simp
  obtain ⟨q0, q1, _, _⟩ := cells2o b3
  generalize hW3 : w2.alloc (.cells #[.pointer (some ⟨a, 0, none⟩), .pointer (some ⟨b, 0, none⟩)] 46) = W3 at *
  have c4 := chg_one W3 (.cells #[.slice none 0 0, .slice none 0 0] 49)
  have b4 := heap_alloc_last W3 (.cells #[.slice none 0 0, .slice none 0 0] 49)
  have HS : Hid (Ords Tab Od w0 (W3.alloc (.cells #[.slice none 0 0, .slice none 0 0] 49)) a b w2.heap.size W3.heap.size (.slice none 0 0) (.slice none 0 0) [] []) := by
    have cx := chg_then (chg_then cc2 c3) c4
    have hlt := HC1.out.size
    have hl2 := cc2.size
    exact ⟨⟨F, G, S.keep HO1.out cx (fun _ _ f => f), S.down (S.keep ho2 (chg_then c3 c4) (fun _ _ f => f)) hlt, fun z f g => by have := (S.lt HO1.out z f).2; have := (S.lt ho2 z g).1; omega⟩, blk_keep b3 c4 (fun f => f), b4, World.ownsRow_nil _ _ _ _, World.ownsRow_nil _ _ _ _, fun g e => by simp [Value.ownBlock] at e, by omega, by omega, Ck17.came_nil, Ck17.came_nil, S.tab HT.out HT.out (chg_then HC1.out cx) (fun _ f => f.elim), chg_then HC1.out cx⟩
  clear ho2 cc2 c3 b3 c4 b4 H2 HO1 HC1
  subst hW3
  go_wp2_with fail
  generalize (w2.alloc (.cells #[.pointer (some ⟨a, 0, none⟩), .pointer (some ⟨b, 0, none⟩)] 46)).alloc (.cells #[.slice none 0 0, .slice none 0 0] 49) = W4 at *
  rw [e3] at HS
  generalize w2.heap.size + 1 = cb at *
  generalize w2.heap.size = ob at *
  clear q0 q1 e3
  go_loopw [28] (fun v28 wr => ∃ (i : Nat) (u v : Value) (l m : List Int), i ≤ n ∧ v28 = .int .i64 (i : Int) ∧ Hid (Ords Tab Od w0 wr a b ob cb u v l m ∧ l.length ≤ i ∧ m.length ≤ i)) (fun v28 _ => n - (intOf v28).toNat)
  case atStart => exact ⟨0, _, _, [], [], by omega, rfl, HS.out, Nat.le_refl _, Nat.le_refl _⟩
  case round =>
    clear HS
    obtain ⟨i, u, v, l, m, hi, rfl, HI⟩ := hrel
    have hii : (i : Int) ≤ 17592186043904 := by omega
    by_cases hin : i < n
    rotate_left
    · have d0 : decide (i < n) = false := decide_eq_false hin
      have HK : Hid _ := known17_any C wr HI.out.1.tb
      have HCX : Hid (Chg (fun _ => False) w0 wr) := HI.out.1.ch
      clear HI
      go_wp2_with fail
      refine Calls.mono HK.out ?_
      rintro z w9 ⟨rfl, c9⟩
      have HC9 : Hid (Chg (fun _ => False) w0 w9) := chg_then HCX.out c9
      clear c9 HK
      go_wp2
      go_ret
      exact ⟨rfl, HC9.out⟩
    · have d0 : decide (i < n) = true := decide_eq_true hin
      obtain ⟨x, hx⟩ : ∃ x, ks[i]? = some x := ⟨_, List.getElem?_eq_getElem (by rw [HL1.out]; exact hin)⟩
      obtain ⟨kb, koff, rfl, hkc⟩ := HI1.out.1.new HI.out.1.ch i x hx
      have HXI : Hid (I64 x) := HI1.out.2 x (List.mem_of_getElem? hx)
      obtain ⟨ua, uc, hu⟩ := form1 HI.out.1.own1
      obtain ⟨va, vc, hv⟩ := form1 HI.out.1.own2
      obtain ⟨L, hL⟩ : ∃ L, l.length = L := ⟨_, rfl⟩
      obtain ⟨M, hM⟩ : ∃ M, m.length = M := ⟨_, rfl⟩
      rw [hL] at hu
      rw [hM] at hv
      subst hu hv
      have HO : Hid (Ords Tab Od w0 wr a b ob cb (.slice ua L uc) (.slice va M vc) l m) := HI.out.1
      have HLM : Hid (l.length = L ∧ m.length = M ∧ L ≤ i ∧ M ≤ i) := ⟨hL, hM, by rw [← hL]; exact HI.out.2.1, by rw [← hM]; exact HI.out.2.2⟩
      have hLi : (L : Int) ≤ 17592186043904 := by have := HLM.out; omega
      have hMi : (M : Int) ≤ 17592186043904 := by have := HLM.out; omega
      obtain ⟨q0, q1, _, _⟩ := cells2o HO.out.obk
      obtain ⟨r0, r1, _, _⟩ := cells2o HO.out.cbk
      clear hx hL hM HI
      by_cases him : i < m2
      · have d2 : decide (i < m2) = true := decide_eq_true him
        have d2' : decide ((i : Int) < (m2 : Int)) = true := decide_eq_true (by omega)
        obtain ⟨t, ht⟩ : ∃ x, ts[i]? = some x := ⟨_, List.getElem?_eq_getElem (by rw [HL2.out]; exact him)⟩
        obtain ⟨tb, toff, rfl, htc0⟩ := HI2.out i t ht
        have htc := cell_chg htc0 HO.out.ch
        clear ht htc0
        cases t
        · have HRN : Hid _ := rnext17_any ua L uc l x (by have := HLM.out; omega) (by have := HLM.out; omega) wr (intC_own (by have h9 := HO.out.own1; rw [show l.length = L by have := HLM.out; omega] at h9; exact h9))
          have HNX : Hid _ := HO.out.next1 S HT.out x HXI.out
          have HRA : Hid (Ck17.rowA l x = if Ck17.nextA l x = 0 then l ++ [x] else l) := rfl
          generalize Ck17.nextA l x = E at *
          have hEE : (E != E) = false := by simp
          go_wp2_with fail
          refine Calls.mono HRN.out ?_
          rintro z w5 ⟨rfl, rfl⟩
          clear HRN
          go_wp2_with fail
          refine Calls.mono HNX.out ?_
          rintro z w6 ⟨rfl, hmid⟩
          rw [HRA.out] at hmid
          clear HNX HRA q0 q1 r0 r1 HO hkc
          go_wp2_with fail
          refine Calls.mono (HN.out _ _) ?_
          rintro z w6 ⟨rfl, rfl⟩
          by_cases hE : E = 0
          · subst hE
            rw [if_pos rfl] at hmid
            have HM : Hid _ := hmid
            obtain ⟨q0, q1, _, _⟩ := cells2o hmid.obk
            obtain ⟨r0, r1, _, _⟩ := cells2o hmid.cbk
            have cA := chg_one w6 (.cells #[.int .i64 x] 3)
            have hown := ownsRow_keep hmid.own1 cA (fun _ _ f => f)
            rw [show l.length = L by have := HLM.out; omega] at hown
            have hsrc := from_int w6 x 3
            have hone := one_int [x]
            have hBB : w0.heap.size ≤ (w6.alloc (.cells #[.int .i64 x] 3)).heap.size := Nat.le_trans hmid.ch.size cA.size
            obtain ⟨rA0, rA1, _, _⟩ := cells2o (blk_keep hmid.cbk cA (fun f => f))
            have hLn : L ≤ 17592186043904 := by omega
            clear hmid cA
            go_wp2_with (at_builtin; refine wpList_append_moved rfl _ _ 44 rfl w0.heap.size 3 ii (.int .i64 0) 1 8 Tryd.underlying44 hif hz0 hz1 hz2 rfl (by decide) _ L (ins .i64 l) rfl (some ⟨w6.heap.size, 0, none⟩) 1 1 rfl (ins .i64 [x]) ?h1 ?h2 ?h3 ?m1 ?m2 ?m3 ?_)
            case h1 => exact hown
            case h2 => exact hsrc
            case h3 => exact hone
            case m1 => unfold maxLen; omega
            case m2 => omega
            case m3 => exact hBB
            intro v9 w9 ho9 hg9 hm9
            obtain ⟨a9, d9, rfl⟩ := form1 ho9
            obtain ⟨hord, hcb9⟩ := Mid.app1 S HM.out HT.out (by rw [show l.length = L by have := HLM.out; omega]; exact ho9) hg9 hm9
            obtain ⟨p0, p1, p2, p3⟩ := cells2o hcb9
            have HX : Hid _ := hord
            clear hown hsrc hone hBB HM hord hcb9 ho9 hg9 hm9 q0 q1 r0 r1 rA0 rA1
            go_upto_region 16 with fail
            generalize w9.setCell ⟨cb, 0, none⟩ (.slice a9 (L + 1) d9) = WX at *
            clear p0 p1 p2 p3
            obtain ⟨N1, hN1⟩ : ∃ z, L + 1 = z := ⟨_, rfl⟩
            have hN1i : (N1 : Int) ≤ 17592186043905 := by omega
            have HN1 : Hid (L + 1 = N1) := hN1
            rw [hN1] at HX ⊢
            clear hN1
            go_wp2_with fail
            go_loopw [69] (fun v69 wq => ∃ j : Nat, j ≤ 2 ∧ v69 = .int .i64 (j : Int) ∧ Hid (Ords Tab Od w0 wq a b ob cb (.slice a9 N1 d9) (.slice va M vc) (l ++ [x]) m)) (fun v69 _ => 2 - (intOf v69).toNat)
            case atStart => exact ⟨0, by omega, rfl, HX.out⟩
            case round =>
              clear HX
              obtain ⟨j, hj, rfl, HJ⟩ := hrel
              by_cases j0 : j = 0
              · subst j0
                obtain ⟨q0, q1, _, _⟩ := cells2o HJ.out.obk
                obtain ⟨r0, r1, _, _⟩ := cells2o HJ.out.cbk
                have HEN : Hid _ := HJ.out.ended1 S HT.out
                go_upto_region 20 with fail
                go_wp2_with fail
                refine Calls.mono HEN.out ?_
                rintro z w5 ⟨rfl, c5⟩
                have HJ5 : Hid _ := HJ.out.new S HT.out c5
                obtain ⟨t0, t1, _, _⟩ := cells2o HJ5.out.cbk
                have hown := HJ5.out.own1
                rw [show ((l ++ [x])).length = N1 by (try simp only [List.length_append, List.length_singleton]); have := HLM.out; have := HN1.out; omega] at hown
                have hlast := last_of hown HJ5.out.c1 (by (try simp only [List.length_append, List.length_singleton]); have := HLM.out; have := HN1.out; omega)
                clear hown c5 HEN q0 q1 r0 r1
                generalize decide ((0 : Int) ∈ (l ++ [x])) = eb at *
                rcases hlast with ⟨h0, heb⟩ | ⟨K, g, y, h0, had, hcell, heb⟩
                · subst h0
                  subst heb
                  go_wp2_with fail
                  exact ⟨⟨1, by omega, by go_num, HJ5.out⟩, by simp [intOf]⟩
                · subst h0
                  subst had
                  have hgt : decide (0 < (K : Int) + 1) = true := decide_eq_true (by omega)
                  have hgt' : decide (0 < K + 1) = true := decide_eq_true (by omega)
                  obtain ⟨yb, hyb⟩ : ∃ z, (y == 0) = z := ⟨_, rfl⟩
                  rw [hyb] at heb
                  subst heb
                  have hne : (eb != eb) = false := by simp
                  go_wp2_with fail
                  exact ⟨⟨1, by omega, by go_num, HJ5.out⟩, by simp [intOf]⟩
              · by_cases j1 : j = 1
                · subst j1
                  obtain ⟨q0, q1, _, _⟩ := cells2o HJ.out.obk
                  obtain ⟨r0, r1, _, _⟩ := cells2o HJ.out.cbk
                  have HEN : Hid _ := HJ.out.ended2 S HT.out
                  go_upto_region 20 with fail
                  go_wp2_with fail
                  refine Calls.mono HEN.out ?_
                  rintro z w5 ⟨rfl, c5⟩
                  have HJ5 : Hid _ := HJ.out.new S HT.out c5
                  obtain ⟨t0, t1, _, _⟩ := cells2o HJ5.out.cbk
                  have hown := HJ5.out.own2
                  rw [show (m).length = M by have := HLM.out; omega] at hown
                  have hlast := last_of hown HJ5.out.c2 (by have := HLM.out; omega)
                  clear hown c5 HEN q0 q1 r0 r1
                  generalize decide ((0 : Int) ∈ m) = eb at *
                  rcases hlast with ⟨h0, heb⟩ | ⟨K, g, y, h0, had, hcell, heb⟩
                  · subst h0
                    subst heb
                    go_wp2_with fail
                    exact ⟨⟨2, by omega, by go_num, HJ5.out⟩, by simp [intOf]⟩
                  · subst h0
                    subst had
                    have hgt : decide (0 < (K : Int) + 1) = true := decide_eq_true (by omega)
                    have hgt' : decide (0 < K + 1) = true := decide_eq_true (by omega)
                    obtain ⟨yb, hyb⟩ : ∃ z, (y == 0) = z := ⟨_, rfl⟩
                    rw [hyb] at heb
                    subst heb
                    have hne : (eb != eb) = false := by simp
                    go_wp2_with fail
                    exact ⟨⟨2, by omega, by go_num, HJ5.out⟩, by simp [intOf]⟩
                · have hj2 : j = 2 := by omega
                  have dj : decide ((j : Int) < 2) = false := decide_eq_false (by omega)
                  have dj' : decide (j < 2) = false := decide_eq_false (by omega)
                  clear j0 j1
                  go_wp2_with fail
                  exact ⟨⟨i + 1, _, _, _, _, by omega, by go_num, HJ.out, by (try simp only [List.length_append, List.length_singleton]); have := HLM.out; omega, by (try simp only [List.length_append, List.length_singleton]); have := HLM.out; omega⟩, by simp [intOf]; omega⟩
          · rw [if_neg hE] at hmid
            have eE : (E == 0) = false := by simp [hE]
            have HX : Hid (Ords Tab Od w0 w6 a b ob cb (.slice ua L uc) (.slice va M vc) l m) := hmid.done
            clear hmid hE
            go_wp2_with fail
            go_loopw [69] (fun v69 wq => ∃ j : Nat, j ≤ 2 ∧ v69 = .int .i64 (j : Int) ∧ Hid (Ords Tab Od w0 wq a b ob cb (.slice ua L uc) (.slice va M vc) l m)) (fun v69 _ => 2 - (intOf v69).toNat)
            case atStart => exact ⟨0, by omega, rfl, HX.out⟩
            case round =>
              clear HX
              obtain ⟨j, hj, rfl, HJ⟩ := hrel
              by_cases j0 : j = 0
              · subst j0
                obtain ⟨q0, q1, _, _⟩ := cells2o HJ.out.obk
                obtain ⟨r0, r1, _, _⟩ := cells2o HJ.out.cbk
                have HEN : Hid _ := HJ.out.ended1 S HT.out
                go_upto_region 20 with fail
                go_wp2_with fail
                refine Calls.mono HEN.out ?_
                rintro z w5 ⟨rfl, c5⟩
                have HJ5 : Hid _ := HJ.out.new S HT.out c5
                obtain ⟨t0, t1, _, _⟩ := cells2o HJ5.out.cbk
                have hown := HJ5.out.own1
                rw [show (l).length = L by have := HLM.out; omega] at hown
                have hlast := last_of hown HJ5.out.c1 (by have := HLM.out; omega)
                clear hown c5 HEN q0 q1 r0 r1
                generalize decide ((0 : Int) ∈ l) = eb at *
                rcases hlast with ⟨h0, heb⟩ | ⟨K, g, y, h0, had, hcell, heb⟩
                · subst h0
                  subst heb
                  go_wp2_with fail
                  exact ⟨⟨1, by omega, by go_num, HJ5.out⟩, by simp [intOf]⟩
                · subst h0
                  subst had
                  have hgt : decide (0 < (K : Int) + 1) = true := decide_eq_true (by omega)
                  have hgt' : decide (0 < K + 1) = true := decide_eq_true (by omega)
                  obtain ⟨yb, hyb⟩ : ∃ z, (y == 0) = z := ⟨_, rfl⟩
                  rw [hyb] at heb
                  subst heb
                  have hne : (eb != eb) = false := by simp
                  go_wp2_with fail
                  exact ⟨⟨1, by omega, by go_num, HJ5.out⟩, by simp [intOf]⟩
              · by_cases j1 : j = 1
                · subst j1
                  obtain ⟨q0, q1, _, _⟩ := cells2o HJ.out.obk
                  obtain ⟨r0, r1, _, _⟩ := cells2o HJ.out.cbk
                  have HEN : Hid _ := HJ.out.ended2 S HT.out
                  go_upto_region 20 with fail
                  go_wp2_with fail
                  refine Calls.mono HEN.out ?_
                  rintro z w5 ⟨rfl, c5⟩
                  have HJ5 : Hid _ := HJ.out.new S HT.out c5
                  obtain ⟨t0, t1, _, _⟩ := cells2o HJ5.out.cbk
                  have hown := HJ5.out.own2
                  rw [show (m).length = M by have := HLM.out; omega] at hown
                  have hlast := last_of hown HJ5.out.c2 (by have := HLM.out; omega)
                  clear hown c5 HEN q0 q1 r0 r1
                  generalize decide ((0 : Int) ∈ m) = eb at *
                  rcases hlast with ⟨h0, heb⟩ | ⟨K, g, y, h0, had, hcell, heb⟩
                  · subst h0
                    subst heb
                    go_wp2_with fail
                    exact ⟨⟨2, by omega, by go_num, HJ5.out⟩, by simp [intOf]⟩
                  · subst h0
                    subst had
                    have hgt : decide (0 < (K : Int) + 1) = true := decide_eq_true (by omega)
                    have hgt' : decide (0 < K + 1) = true := decide_eq_true (by omega)
                    obtain ⟨yb, hyb⟩ : ∃ z, (y == 0) = z := ⟨_, rfl⟩
                    rw [hyb] at heb
                    subst heb
                    have hne : (eb != eb) = false := by simp
                    go_wp2_with fail
                    exact ⟨⟨2, by omega, by go_num, HJ5.out⟩, by simp [intOf]⟩
                · have hj2 : j = 2 := by omega
                  have dj : decide ((j : Int) < 2) = false := decide_eq_false (by omega)
                  have dj' : decide (j < 2) = false := decide_eq_false (by omega)
                  clear j0 j1
                  go_wp2_with fail
                  exact ⟨⟨i + 1, _, _, _, _, by omega, by go_num, HJ.out, by (try simp only [List.length_append, List.length_singleton]); have := HLM.out; omega, by (try simp only [List.length_append, List.length_singleton]); have := HLM.out; omega⟩, by simp [intOf]; omega⟩
        · have HRN : Hid _ := rnext17_any va M vc m x (by have := HLM.out; omega) (by have := HLM.out; omega) wr (intC_own (by have h9 := HO.out.own2; rw [show m.length = M by have := HLM.out; omega] at h9; exact h9))
          have HNX : Hid _ := HO.out.next2 S HT.out x HXI.out
          have HRA : Hid (Ck17.rowA m x = if Ck17.nextA m x = 0 then m ++ [x] else m) := rfl
          generalize Ck17.nextA m x = E at *
          have hEE : (E != E) = false := by simp
          go_wp2_with fail
          refine Calls.mono HRN.out ?_
          rintro z w5 ⟨rfl, rfl⟩
          clear HRN
          go_wp2_with fail
          refine Calls.mono HNX.out ?_
          rintro z w6 ⟨rfl, hmid⟩
          rw [HRA.out] at hmid
          clear HNX HRA q0 q1 r0 r1 HO hkc
          go_wp2_with fail
          refine Calls.mono (HN.out _ _) ?_
          rintro z w6 ⟨rfl, rfl⟩
          by_cases hE : E = 0
          · subst hE
            rw [if_pos rfl] at hmid
            have HM : Hid _ := hmid
            obtain ⟨q0, q1, _, _⟩ := cells2o hmid.obk
            obtain ⟨r0, r1, _, _⟩ := cells2o hmid.cbk
            have cA := chg_one w6 (.cells #[.int .i64 x] 3)
            have hown := ownsRow_keep hmid.own2 cA (fun _ _ f => f)
            rw [show m.length = M by have := HLM.out; omega] at hown
            have hsrc := from_int w6 x 3
            have hone := one_int [x]
            have hBB : w0.heap.size ≤ (w6.alloc (.cells #[.int .i64 x] 3)).heap.size := Nat.le_trans hmid.ch.size cA.size
            obtain ⟨rA0, rA1, _, _⟩ := cells2o (blk_keep hmid.cbk cA (fun f => f))
            have hLn : M ≤ 17592186043904 := by omega
            clear hmid cA
            go_wp2_with (at_builtin; refine wpList_append_moved rfl _ _ 44 rfl w0.heap.size 3 ii (.int .i64 0) 1 8 Tryd.underlying44 hif hz0 hz1 hz2 rfl (by decide) _ M (ins .i64 m) rfl (some ⟨w6.heap.size, 0, none⟩) 1 1 rfl (ins .i64 [x]) ?h1 ?h2 ?h3 ?m1 ?m2 ?m3 ?_)
            case h1 => exact hown
            case h2 => exact hsrc
            case h3 => exact hone
            case m1 => unfold maxLen; omega
            case m2 => omega
            case m3 => exact hBB
            intro v9 w9 ho9 hg9 hm9
            obtain ⟨a9, d9, rfl⟩ := form1 ho9
            obtain ⟨hord, hcb9⟩ := Mid.app2 S HM.out HT.out (by rw [show m.length = M by have := HLM.out; omega]; exact ho9) hg9 hm9
            obtain ⟨p0, p1, p2, p3⟩ := cells2o hcb9
            have HX : Hid _ := hord
            clear hown hsrc hone hBB HM hord hcb9 ho9 hg9 hm9 q0 q1 r0 r1 rA0 rA1
            go_upto_region 16 with fail
            generalize w9.setCell ⟨cb, 1, none⟩ (.slice a9 (M + 1) d9) = WX at *
            clear p0 p1 p2 p3
            obtain ⟨N1, hN1⟩ : ∃ z, M + 1 = z := ⟨_, rfl⟩
            have hN1i : (N1 : Int) ≤ 17592186043905 := by omega
            have HN1 : Hid (M + 1 = N1) := hN1
            rw [hN1] at HX ⊢
            clear hN1
            go_wp2_with fail
            go_loopw [69] (fun v69 wq => ∃ j : Nat, j ≤ 2 ∧ v69 = .int .i64 (j : Int) ∧ Hid (Ords Tab Od w0 wq a b ob cb (.slice ua L uc) (.slice a9 N1 d9) l (m ++ [x]))) (fun v69 _ => 2 - (intOf v69).toNat)
            case atStart => exact ⟨0, by omega, rfl, HX.out⟩
            case round =>
              clear HX
              obtain ⟨j, hj, rfl, HJ⟩ := hrel
              by_cases j0 : j = 0
              · subst j0
                obtain ⟨q0, q1, _, _⟩ := cells2o HJ.out.obk
                obtain ⟨r0, r1, _, _⟩ := cells2o HJ.out.cbk
                have HEN : Hid _ := HJ.out.ended1 S HT.out
                go_upto_region 20 with fail
                go_wp2_with fail
                refine Calls.mono HEN.out ?_
                rintro z w5 ⟨rfl, c5⟩
                have HJ5 : Hid _ := HJ.out.new S HT.out c5
                obtain ⟨t0, t1, _, _⟩ := cells2o HJ5.out.cbk
                have hown := HJ5.out.own1
                rw [show (l).length = L by have := HLM.out; omega] at hown
                have hlast := last_of hown HJ5.out.c1 (by have := HLM.out; omega)
                clear hown c5 HEN q0 q1 r0 r1
                generalize decide ((0 : Int) ∈ l) = eb at *
                rcases hlast with ⟨h0, heb⟩ | ⟨K, g, y, h0, had, hcell, heb⟩
                · subst h0
                  subst heb
                  go_wp2_with fail
                  exact ⟨⟨1, by omega, by go_num, HJ5.out⟩, by simp [intOf]⟩
                · subst h0
                  subst had
                  have hgt : decide (0 < (K : Int) + 1) = true := decide_eq_true (by omega)
                  have hgt' : decide (0 < K + 1) = true := decide_eq_true (by omega)
                  obtain ⟨yb, hyb⟩ : ∃ z, (y == 0) = z := ⟨_, rfl⟩
                  rw [hyb] at heb
                  subst heb
                  have hne : (eb != eb) = false := by simp
                  go_wp2_with fail
                  exact ⟨⟨1, by omega, by go_num, HJ5.out⟩, by simp [intOf]⟩
              · by_cases j1 : j = 1
                · subst j1
                  obtain ⟨q0, q1, _, _⟩ := cells2o HJ.out.obk
                  obtain ⟨r0, r1, _, _⟩ := cells2o HJ.out.cbk
                  have HEN : Hid _ := HJ.out.ended2 S HT.out
                  go_upto_region 20 with fail
                  go_wp2_with fail
                  refine Calls.mono HEN.out ?_
                  rintro z w5 ⟨rfl, c5⟩
                  have HJ5 : Hid _ := HJ.out.new S HT.out c5
                  obtain ⟨t0, t1, _, _⟩ := cells2o HJ5.out.cbk
                  have hown := HJ5.out.own2
                  rw [show ((m ++ [x])).length = N1 by (try simp only [List.length_append, List.length_singleton]); have := HLM.out; have := HN1.out; omega] at hown
                  have hlast := last_of hown HJ5.out.c2 (by (try simp only [List.length_append, List.length_singleton]); have := HLM.out; have := HN1.out; omega)
                  clear hown c5 HEN q0 q1 r0 r1
                  generalize decide ((0 : Int) ∈ (m ++ [x])) = eb at *
                  rcases hlast with ⟨h0, heb⟩ | ⟨K, g, y, h0, had, hcell, heb⟩
                  · subst h0
                    subst heb
                    go_wp2_with fail
                    exact ⟨⟨2, by omega, by go_num, HJ5.out⟩, by simp [intOf]⟩
                  · subst h0
                    subst had
                    have hgt : decide (0 < (K : Int) + 1) = true := decide_eq_true (by omega)
                    have hgt' : decide (0 < K + 1) = true := decide_eq_true (by omega)
                    obtain ⟨yb, hyb⟩ : ∃ z, (y == 0) = z := ⟨_, rfl⟩
                    rw [hyb] at heb
                    subst heb
                    have hne : (eb != eb) = false := by simp
                    go_wp2_with fail
                    exact ⟨⟨2, by omega, by go_num, HJ5.out⟩, by simp [intOf]⟩
                · have hj2 : j = 2 := by omega
                  have dj : decide ((j : Int) < 2) = false := decide_eq_false (by omega)
                  have dj' : decide (j < 2) = false := decide_eq_false (by omega)
                  clear j0 j1
                  go_wp2_with fail
                  exact ⟨⟨i + 1, _, _, _, _, by omega, by go_num, HJ.out, by (try simp only [List.length_append, List.length_singleton]); have := HLM.out; omega, by (try simp only [List.length_append, List.length_singleton]); have := HLM.out; omega⟩, by simp [intOf]; omega⟩
          · rw [if_neg hE] at hmid
            have eE : (E == 0) = false := by simp [hE]
            have HX : Hid (Ords Tab Od w0 w6 a b ob cb (.slice ua L uc) (.slice va M vc) l m) := hmid.done
            clear hmid hE
            go_wp2_with fail
            go_loopw [69] (fun v69 wq => ∃ j : Nat, j ≤ 2 ∧ v69 = .int .i64 (j : Int) ∧ Hid (Ords Tab Od w0 wq a b ob cb (.slice ua L uc) (.slice va M vc) l m)) (fun v69 _ => 2 - (intOf v69).toNat)
            case atStart => exact ⟨0, by omega, rfl, HX.out⟩
            case round =>
              clear HX
              obtain ⟨j, hj, rfl, HJ⟩ := hrel
              by_cases j0 : j = 0
              · subst j0
                obtain ⟨q0, q1, _, _⟩ := cells2o HJ.out.obk
                obtain ⟨r0, r1, _, _⟩ := cells2o HJ.out.cbk
                have HEN : Hid _ := HJ.out.ended1 S HT.out
                go_upto_region 20 with fail
                go_wp2_with fail
                refine Calls.mono HEN.out ?_
                rintro z w5 ⟨rfl, c5⟩
                have HJ5 : Hid _ := HJ.out.new S HT.out c5
                obtain ⟨t0, t1, _, _⟩ := cells2o HJ5.out.cbk
                have hown := HJ5.out.own1
                rw [show (l).length = L by have := HLM.out; omega] at hown
                have hlast := last_of hown HJ5.out.c1 (by have := HLM.out; omega)
                clear hown c5 HEN q0 q1 r0 r1
                generalize decide ((0 : Int) ∈ l) = eb at *
                rcases hlast with ⟨h0, heb⟩ | ⟨K, g, y, h0, had, hcell, heb⟩
                · subst h0
                  subst heb
                  go_wp2_with fail
                  exact ⟨⟨1, by omega, by go_num, HJ5.out⟩, by simp [intOf]⟩
                · subst h0
                  subst had
                  have hgt : decide (0 < (K : Int) + 1) = true := decide_eq_true (by omega)
                  have hgt' : decide (0 < K + 1) = true := decide_eq_true (by omega)
                  obtain ⟨yb, hyb⟩ : ∃ z, (y == 0) = z := ⟨_, rfl⟩
                  rw [hyb] at heb
                  subst heb
                  have hne : (eb != eb) = false := by simp
                  go_wp2_with fail
                  exact ⟨⟨1, by omega, by go_num, HJ5.out⟩, by simp [intOf]⟩
              · by_cases j1 : j = 1
                · subst j1
                  obtain ⟨q0, q1, _, _⟩ := cells2o HJ.out.obk
                  obtain ⟨r0, r1, _, _⟩ := cells2o HJ.out.cbk
                  have HEN : Hid _ := HJ.out.ended2 S HT.out
                  go_upto_region 20 with fail
                  go_wp2_with fail
                  refine Calls.mono HEN.out ?_
                  rintro z w5 ⟨rfl, c5⟩
                  have HJ5 : Hid _ := HJ.out.new S HT.out c5
                  obtain ⟨t0, t1, _, _⟩ := cells2o HJ5.out.cbk
                  have hown := HJ5.out.own2
                  rw [show (m).length = M by have := HLM.out; omega] at hown
                  have hlast := last_of hown HJ5.out.c2 (by have := HLM.out; omega)
                  clear hown c5 HEN q0 q1 r0 r1
                  generalize decide ((0 : Int) ∈ m) = eb at *
                  rcases hlast with ⟨h0, heb⟩ | ⟨K, g, y, h0, had, hcell, heb⟩
                  · subst h0
                    subst heb
                    go_wp2_with fail
                    exact ⟨⟨2, by omega, by go_num, HJ5.out⟩, by simp [intOf]⟩
                  · subst h0
                    subst had
                    have hgt : decide (0 < (K : Int) + 1) = true := decide_eq_true (by omega)
                    have hgt' : decide (0 < K + 1) = true := decide_eq_true (by omega)
                    obtain ⟨yb, hyb⟩ : ∃ z, (y == 0) = z := ⟨_, rfl⟩
                    rw [hyb] at heb
                    subst heb
                    have hne : (eb != eb) = false := by simp
                    go_wp2_with fail
                    exact ⟨⟨2, by omega, by go_num, HJ5.out⟩, by simp [intOf]⟩
                · have hj2 : j = 2 := by omega
                  have dj : decide ((j : Int) < 2) = false := decide_eq_false (by omega)
                  have dj' : decide (j < 2) = false := decide_eq_false (by omega)
                  clear j0 j1
                  go_wp2_with fail
                  exact ⟨⟨i + 1, _, _, _, _, by omega, by go_num, HJ.out, by (try simp only [List.length_append, List.length_singleton]); have := HLM.out; omega, by (try simp only [List.length_append, List.length_singleton]); have := HLM.out; omega⟩, by simp [intOf]; omega⟩
      · have d2 : decide (i < m2) = false := decide_eq_false him
        have d2' : decide ((i : Int) < (m2 : Int)) = false := decide_eq_false (by omega)
        have HRN : Hid _ := rnext17_any ua L uc l x (by have := HLM.out; omega) (by have := HLM.out; omega) wr (intC_own (by have h9 := HO.out.own1; rw [show l.length = L by have := HLM.out; omega] at h9; exact h9))
        have HNX : Hid _ := HO.out.next1 S HT.out x HXI.out
        have HRA : Hid (Ck17.rowA l x = if Ck17.nextA l x = 0 then l ++ [x] else l) := rfl
        generalize Ck17.nextA l x = E at *
        have hEE : (E != E) = false := by simp
        go_wp2_with fail
        refine Calls.mono HRN.out ?_
        rintro z w5 ⟨rfl, rfl⟩
        clear HRN
        go_wp2_with fail
        refine Calls.mono HNX.out ?_
        rintro z w6 ⟨rfl, hmid⟩
        rw [HRA.out] at hmid
        clear HNX HRA q0 q1 r0 r1 HO hkc
        go_wp2_with fail
        refine Calls.mono (HN.out _ _) ?_
        rintro z w6 ⟨rfl, rfl⟩
        by_cases hE : E = 0
        · subst hE
          rw [if_pos rfl] at hmid
          have HM : Hid _ := hmid
          obtain ⟨q0, q1, _, _⟩ := cells2o hmid.obk
          obtain ⟨r0, r1, _, _⟩ := cells2o hmid.cbk
          have cA := chg_one w6 (.cells #[.int .i64 x] 3)
          have hown := ownsRow_keep hmid.own1 cA (fun _ _ f => f)
          rw [show l.length = L by have := HLM.out; omega] at hown
          have hsrc := from_int w6 x 3
          have hone := one_int [x]
          have hBB : w0.heap.size ≤ (w6.alloc (.cells #[.int .i64 x] 3)).heap.size := Nat.le_trans hmid.ch.size cA.size
          obtain ⟨rA0, rA1, _, _⟩ := cells2o (blk_keep hmid.cbk cA (fun f => f))
          have hLn : L ≤ 17592186043904 := by omega
          clear hmid cA
          go_wp2_with (at_builtin; refine wpList_append_moved rfl _ _ 44 rfl w0.heap.size 3 ii (.int .i64 0) 1 8 Tryd.underlying44 hif hz0 hz1 hz2 rfl (by decide) _ L (ins .i64 l) rfl (some ⟨w6.heap.size, 0, none⟩) 1 1 rfl (ins .i64 [x]) ?h1 ?h2 ?h3 ?m1 ?m2 ?m3 ?_)
          case h1 => exact hown
          case h2 => exact hsrc
          case h3 => exact hone
          case m1 => unfold maxLen; omega
          case m2 => omega
          case m3 => exact hBB
          intro v9 w9 ho9 hg9 hm9
          obtain ⟨a9, d9, rfl⟩ := form1 ho9
          obtain ⟨hord, hcb9⟩ := Mid.app1 S HM.out HT.out (by rw [show l.length = L by have := HLM.out; omega]; exact ho9) hg9 hm9
          obtain ⟨p0, p1, p2, p3⟩ := cells2o hcb9
          have HX : Hid _ := hord
          clear hown hsrc hone hBB HM hord hcb9 ho9 hg9 hm9 q0 q1 r0 r1 rA0 rA1
          go_upto_region 16 with fail
          generalize w9.setCell ⟨cb, 0, none⟩ (.slice a9 (L + 1) d9) = WX at *
          clear p0 p1 p2 p3
          obtain ⟨N1, hN1⟩ : ∃ z, L + 1 = z := ⟨_, rfl⟩
          have hN1i : (N1 : Int) ≤ 17592186043905 := by omega
          have HN1 : Hid (L + 1 = N1) := hN1
          rw [hN1] at HX ⊢
          clear hN1
          go_wp2_with fail
          go_loopw [69] (fun v69 wq => ∃ j : Nat, j ≤ 2 ∧ v69 = .int .i64 (j : Int) ∧ Hid (Ords Tab Od w0 wq a b ob cb (.slice a9 N1 d9) (.slice va M vc) (l ++ [x]) m)) (fun v69 _ => 2 - (intOf v69).toNat)
          case atStart => exact ⟨0, by omega, rfl, HX.out⟩
          case round =>
            clear HX
            obtain ⟨j, hj, rfl, HJ⟩ := hrel
            by_cases j0 : j = 0
            · subst j0
              obtain ⟨q0, q1, _, _⟩ := cells2o HJ.out.obk
              obtain ⟨r0, r1, _, _⟩ := cells2o HJ.out.cbk
              have HEN : Hid _ := HJ.out.ended1 S HT.out
              go_upto_region 20 with fail
              go_wp2_with fail
              refine Calls.mono HEN.out ?_
              rintro z w5 ⟨rfl, c5⟩
              have HJ5 : Hid _ := HJ.out.new S HT.out c5
              obtain ⟨t0, t1, _, _⟩ := cells2o HJ5.out.cbk
              have hown := HJ5.out.own1
              rw [show ((l ++ [x])).length = N1 by (try simp only [List.length_append, List.length_singleton]); have := HLM.out; have := HN1.out; omega] at hown
              have hlast := last_of hown HJ5.out.c1 (by (try simp only [List.length_append, List.length_singleton]); have := HLM.out; have := HN1.out; omega)
              clear hown c5 HEN q0 q1 r0 r1
              generalize decide ((0 : Int) ∈ (l ++ [x])) = eb at *
              rcases hlast with ⟨h0, heb⟩ | ⟨K, g, y, h0, had, hcell, heb⟩
              · subst h0
                subst heb
                go_wp2_with fail
                exact ⟨⟨1, by omega, by go_num, HJ5.out⟩, by simp [intOf]⟩
              · subst h0
                subst had
                have hgt : decide (0 < (K : Int) + 1) = true := decide_eq_true (by omega)
                have hgt' : decide (0 < K + 1) = true := decide_eq_true (by omega)
                obtain ⟨yb, hyb⟩ : ∃ z, (y == 0) = z := ⟨_, rfl⟩
                rw [hyb] at heb
                subst heb
                have hne : (eb != eb) = false := by simp
                go_wp2_with fail
                exact ⟨⟨1, by omega, by go_num, HJ5.out⟩, by simp [intOf]⟩
            · by_cases j1 : j = 1
              · subst j1
                obtain ⟨q0, q1, _, _⟩ := cells2o HJ.out.obk
                obtain ⟨r0, r1, _, _⟩ := cells2o HJ.out.cbk
                have HEN : Hid _ := HJ.out.ended2 S HT.out
                go_upto_region 20 with fail
                go_wp2_with fail
                refine Calls.mono HEN.out ?_
                rintro z w5 ⟨rfl, c5⟩
                have HJ5 : Hid _ := HJ.out.new S HT.out c5
                obtain ⟨t0, t1, _, _⟩ := cells2o HJ5.out.cbk
                have hown := HJ5.out.own2
                rw [show (m).length = M by have := HLM.out; omega] at hown
                have hlast := last_of hown HJ5.out.c2 (by have := HLM.out; omega)
                clear hown c5 HEN q0 q1 r0 r1
                generalize decide ((0 : Int) ∈ m) = eb at *
                rcases hlast with ⟨h0, heb⟩ | ⟨K, g, y, h0, had, hcell, heb⟩
                · subst h0
                  subst heb
                  go_wp2_with fail
                  exact ⟨⟨2, by omega, by go_num, HJ5.out⟩, by simp [intOf]⟩
                · subst h0
                  subst had
                  have hgt : decide (0 < (K : Int) + 1) = true := decide_eq_true (by omega)
                  have hgt' : decide (0 < K + 1) = true := decide_eq_true (by omega)
                  obtain ⟨yb, hyb⟩ : ∃ z, (y == 0) = z := ⟨_, rfl⟩
                  rw [hyb] at heb
                  subst heb
                  have hne : (eb != eb) = false := by simp
                  go_wp2_with fail
                  exact ⟨⟨2, by omega, by go_num, HJ5.out⟩, by simp [intOf]⟩
              · have hj2 : j = 2 := by omega
                have dj : decide ((j : Int) < 2) = false := decide_eq_false (by omega)
                have dj' : decide (j < 2) = false := decide_eq_false (by omega)
                clear j0 j1
                go_wp2_with fail
                exact ⟨⟨i + 1, _, _, _, _, by omega, by go_num, HJ.out, by (try simp only [List.length_append, List.length_singleton]); have := HLM.out; omega, by (try simp only [List.length_append, List.length_singleton]); have := HLM.out; omega⟩, by simp [intOf]; omega⟩
        · rw [if_neg hE] at hmid
          have eE : (E == 0) = false := by simp [hE]
          have HX : Hid (Ords Tab Od w0 w6 a b ob cb (.slice ua L uc) (.slice va M vc) l m) := hmid.done
          clear hmid hE
          go_wp2_with fail
          go_loopw [69] (fun v69 wq => ∃ j : Nat, j ≤ 2 ∧ v69 = .int .i64 (j : Int) ∧ Hid (Ords Tab Od w0 wq a b ob cb (.slice ua L uc) (.slice va M vc) l m)) (fun v69 _ => 2 - (intOf v69).toNat)
          case atStart => exact ⟨0, by omega, rfl, HX.out⟩
          case round =>
            clear HX
            obtain ⟨j, hj, rfl, HJ⟩ := hrel
            by_cases j0 : j = 0
            · subst j0
              obtain ⟨q0, q1, _, _⟩ := cells2o HJ.out.obk
              obtain ⟨r0, r1, _, _⟩ := cells2o HJ.out.cbk
              have HEN : Hid _ := HJ.out.ended1 S HT.out
              go_upto_region 20 with fail
              go_wp2_with fail
              refine Calls.mono HEN.out ?_
              rintro z w5 ⟨rfl, c5⟩
              have HJ5 : Hid _ := HJ.out.new S HT.out c5
              obtain ⟨t0, t1, _, _⟩ := cells2o HJ5.out.cbk
              have hown := HJ5.out.own1
              rw [show (l).length = L by have := HLM.out; omega] at hown
              have hlast := last_of hown HJ5.out.c1 (by have := HLM.out; omega)
              clear hown c5 HEN q0 q1 r0 r1
              generalize decide ((0 : Int) ∈ l) = eb at *
              rcases hlast with ⟨h0, heb⟩ | ⟨K, g, y, h0, had, hcell, heb⟩
              · subst h0
                subst heb
                go_wp2_with fail
                exact ⟨⟨1, by omega, by go_num, HJ5.out⟩, by simp [intOf]⟩
              · subst h0
                subst had
                have hgt : decide (0 < (K : Int) + 1) = true := decide_eq_true (by omega)
                have hgt' : decide (0 < K + 1) = true := decide_eq_true (by omega)
                obtain ⟨yb, hyb⟩ : ∃ z, (y == 0) = z := ⟨_, rfl⟩
                rw [hyb] at heb
                subst heb
                have hne : (eb != eb) = false := by simp
                go_wp2_with fail
                exact ⟨⟨1, by omega, by go_num, HJ5.out⟩, by simp [intOf]⟩
            · by_cases j1 : j = 1
              · subst j1
                obtain ⟨q0, q1, _, _⟩ := cells2o HJ.out.obk
                obtain ⟨r0, r1, _, _⟩ := cells2o HJ.out.cbk
                have HEN : Hid _ := HJ.out.ended2 S HT.out
                go_upto_region 20 with fail
                go_wp2_with fail
                refine Calls.mono HEN.out ?_
                rintro z w5 ⟨rfl, c5⟩
                have HJ5 : Hid _ := HJ.out.new S HT.out c5
                obtain ⟨t0, t1, _, _⟩ := cells2o HJ5.out.cbk
                have hown := HJ5.out.own2
                rw [show (m).length = M by have := HLM.out; omega] at hown
                have hlast := last_of hown HJ5.out.c2 (by have := HLM.out; omega)
                clear hown c5 HEN q0 q1 r0 r1
                generalize decide ((0 : Int) ∈ m) = eb at *
                rcases hlast with ⟨h0, heb⟩ | ⟨K, g, y, h0, had, hcell, heb⟩
                · subst h0
                  subst heb
                  go_wp2_with fail
                  exact ⟨⟨2, by omega, by go_num, HJ5.out⟩, by simp [intOf]⟩
                · subst h0
                  subst had
                  have hgt : decide (0 < (K : Int) + 1) = true := decide_eq_true (by omega)
                  have hgt' : decide (0 < K + 1) = true := decide_eq_true (by omega)
                  obtain ⟨yb, hyb⟩ : ∃ z, (y == 0) = z := ⟨_, rfl⟩
                  rw [hyb] at heb
                  subst heb
                  have hne : (eb != eb) = false := by simp
                  go_wp2_with fail
                  exact ⟨⟨2, by omega, by go_num, HJ5.out⟩, by simp [intOf]⟩
              · have hj2 : j = 2 := by omega
                have dj : decide ((j : Int) < 2) = false := decide_eq_false (by omega)
                have dj' : decide (j < 2) = false := decide_eq_false (by omega)
                clear j0 j1
                go_wp2_with fail
                exact ⟨⟨i + 1, _, _, _, _, by omega, by go_num, HJ.out, by (try simp only [List.length_append, List.length_singleton]); have := HLM.out; omega, by (try simp only [List.length_append, List.length_singleton]); have := HLM.out; omega⟩, by simp [intOf]; omega⟩
end Go.Proofs.YtannepoclpmedaaDoor
