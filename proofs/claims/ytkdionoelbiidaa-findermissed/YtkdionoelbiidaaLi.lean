/- The finder's iterator; of no statement by itself. -/
import Derived.Test.YtkdionoelbiidaaLh
import Derived.Test.YtkdionoelbiidaaRs
namespace Go.Proofs.Ytkdionoelbiidaa
open Go.RowKit
set_option linter.unusedVariables false
set_option linter.unusedSimpArgs false
attribute [local go_sem] Oper.semAt_some

/-- What the inner range keeps. -/
structure MI (J : (Nat → Prop) → Nat → World → Prop) (N1 : Nat → Prop) (l p r b3 b4 b5 bb m c : Nat) (ad : Option Addr) (k : Nat) (X : World) : Prop where
  j : J N1 k X
  y : X.heap[b3]? = some (.cells #[.func (.yield l) #[] #[]] 62 (0, 0))
  ps : X.heap[b4]? = some (.cells #[.int .i64 (p : Int)] 3 (0, 0))
  rs : X.heap[b5]? = some (.cells #[.int .i64 (r : Int)] 3 (0, 0))
  ls : X.heap[bb]? = some (.cells #[.slice ad m c] 39 (0, 0))
theorem MI.turn {J : (Nat → Prop) → Nat → World → Prop} {N1 : Nat → Prop} {l p r b3 b4 b5 bb m c : Nat} {ad : Option Addr} {k : Nat} {X Y : World} {B0 B1 : Nat} (hJt : ∀ N k X Y, J N k X → Turn B0 X Y → J N k Y) (h : MI J N1 l p r b3 b4 b5 bb m c ad k X) (hc : Turn B1 X Y) (hB : B0 ≤ B1) : MI J N1 l p r b3 b4 b5 bb m c ad k Y := ⟨hJt _ _ _ _ h.j (hc.up hB), hc.cells h.y, hc.cells h.ps, hc.cells h.rs, hc.cells h.ls⟩
theorem leave_marked {P : Program} {fn : Func} {R : Ending → World → Prop} {T : Array Value} {D : Nat} {X : World} {e : Exit} (he : e = .normal ∨ e = .ret) (hres : fn.results = #[]) (hdef : X.heap[D]? = some (.deferred (some []))) (h : R (.returned (.tuple #[])) (X.putObj D (.deferred none))) : bodyPostM Fence.wide 0 P fn R e { tmps := T, defers := [{ target := .collected D, args := #[] }] } X := by
  rcases he with rfl | rfl
  · exact ⟨by simp, .inl ⟨_, _, rfl, run_takeDeferred hdef, _, results_none hres _ _ _, h⟩⟩
  · exact ⟨by simp, .inl ⟨_, _, rfl, run_takeDeferred hdef, _, results_none hres _ _ _, h⟩⟩
theorem leave_plain {P : Program} {fn : Func} {R : Ending → World → Prop} {T : Array Value} {X : World} {e : Exit} (he : e = .normal ∨ e = .ret) (hres : fn.results = #[]) (h : R (.returned (.tuple #[])) X) : bodyPostM Fence.wide 0 P fn R e { tmps := T, defers := [] } X := by
  rcases he with rfl | rfl
  · exact ⟨_, results_none hres _ _ _, h⟩
  · exact ⟨_, results_none hres _ _ _, h⟩
set_option maxHeartbeats 8000000 in
set_option maxRecDepth 100000 in
open Classical in
theorem iter_go (b1 b2 a : Nat) (most : Int) (hm : I64 most) (γ : Gh) (B : Nat) (d : List Nat) (n p : Nat) (l : Nat) (J Jx : (Nat → Prop) → Nat → World → Prop) (W : World) (N0 : Nat → Prop)
    (hJt : ∀ N k X Y, J N k X → Turn W.heap.size X Y → J N k Y) (hJxt : ∀ N k X Y, Jx N k X → Turn W.heap.size X Y → Jx N k Y)
    (hmore : ∀ N N' X Y, J N 0 X → Chg (fun _ => False) X Y → (∀ z, N z → N' z) → (∀ z, N' z → N z ∨ X.heap.size ≤ z) → (∀ z, N' z → N z ∨ z < Y.heap.size) → J N' 0 Y)
    (hst : ∀ N X, J N 0 X → Fi γ X B a d n p)
    (hlv : ∀ N k X, J N k X → ∃ γ' p', gle γ γ' ∧ Fi γ' X B a d n p' ∧ X.heap[b1]? = some (.cells #[.pointer (some ⟨a, 0, none⟩)] 23 (0, 0)) ∧ X.heap[b2]? = some (.cells #[.int .i64 most] 3 (0, 0)))
    (hY : ∀ N k X (hk : k < ((mat d n p most).map mval).length), J N k X → YieldAt Fence.wide 0 Try.prog l #[((mat d n p most).map mval)[k]] X fun e X' => ((e = .returned (.bool true) ∧ J N (k + 1) X') ∨ (e = .returned (.bool false) ∧ Jx N (k + 1) X')) ∧ Calm N W.heap.size X X') (h0 : J N0 0 W) :
    CallsIn Fence.wide 0 Try.prog 27 #[.func (.yield l) #[] #[], .pointer (some ⟨b1, 0, none⟩), .pointer (some ⟨b2, 0, none⟩)] W fun e W' => (∃ v, e = .returned v) ∧ ∃ N, (∀ z, N0 z → N z) ∧ (J N ((mat d n p most).map mval).length W' ∨ ∃ k, 1 ≤ k ∧ k ≤ ((mat d n p most).map mval).length ∧ Jx N k W') := by
  have HF : Hid (Fi γ W B a d n p) := hst N0 W h0
  obtain ⟨hb1, hb2⟩ : W.heap[b1]? = some (.cells #[.pointer (some ⟨a, 0, none⟩)] 23 (0, 0)) ∧ W.heap[b2]? = some (.cells #[.int .i64 most] 3 (0, 0)) := by obtain ⟨γ', p', _, _, h1, h2⟩ := hlv N0 0 W h0; exact ⟨h1, h2⟩
  have c1 := chg_one W (.cells #[.func (.yield l) #[] #[]] 62)
  obtain ⟨kb1, _⟩ := cells1 (blk_keep hb1 c1 (fun f => f))
  obtain ⟨kb2, _⟩ := cells1 (blk_keep hb2 c1 (fun f => f))
  obtain ⟨_, _, kc2, _, _⟩ := cells4 (HF.out.keep c1 (fun _ _ f => f)).blk'
  have hpL := HF.out.num.2.2.1
  have hLb := HF.out.num.2.2.2
  have hpi : (p : Int) ≤ 140737488355328 := by omega
  obtain ⟨R, hR⟩ : ∃ R, min (min most 273) ((d.length - p : Nat) : Int) = R := ⟨_, rfl⟩
  have HRE : Hid (∀ w, Chg (fun _ => False) W w → Calls Try.prog 24 #[.pointer (some ⟨a, 0, none⟩), .int .i64 most] w fun e w' => e = .returned (.int .i64 R) ∧ ∃ k, w' = w.drewN k) := fun w hc => by
    have := reach_q a γ.da d.length γ.dc p _ _ most w hm (HF.out.keep hc (fun _ _ f => f)).blk' hpL hLb
    rw [hR] at this
    exact this
  have HRR : Hid (min (min most 273) ((d.length - p : Nat) : Int) = R) := hR
  have HC1 : Hid (Chg (fun _ => False) W (W.alloc (.cells #[.func (.yield l) #[] #[]] 62))) := c1
  have HK3 : Hid ((W.alloc (.cells #[.func (.yield l) #[] #[]] 62)).heap[W.heap.size]? = some (.cells #[.func (.yield l) #[] #[]] 62 (0, 0))) := heap_alloc_last _ _
  have HJ0 : Hid (J N0 0 W) := h0
  have HMO : Hid _ := hmore
  have HLV : Hid _ := hlv
  have HY : Hid _ := hY
  have HSZ : Hid (W.heap.size < (W.alloc (.cells #[.func (.yield l) #[] #[]] 62)).heap.size) := by show _ < _; simp
  have HB1 : Hid (W.heap[b1]? = some (.cells #[.pointer (some ⟨a, 0, none⟩)] 23 (0, 0))) := hb1
  clear h0 hb1 hb2 hR hst hmore hlv hY c1
  refine callsIn_of_wp_marks Try.func27 rfl trivial (wpIn_wide.2 ?_)
  simp only [Try.ntmps27, List.size_toArray, List.length_cons, List.length_nil, Nat.reduceAdd, Nat.reduceSub, Array.replicate_succ, Array.replicate_zero, List.push_toArray, List.append_toArray, List.nil_append, List.cons_append]
  go_wp2_with fail
  generalize W.alloc (.cells #[.func (.yield l) #[] #[]] 62) = W1 at *
  refine wp_region_set (mk := fun u => #[_, _, _, _, u 4, u 5, _, _, u 8, u 9, u 10, u 11, u 12, u 13, u 14, _, _, _, _, _, _, _, _, _, _, _, _, _, _, _, _, _, _, _]) (G := lookG [(8, .pointer (some ⟨a, 0, none⟩)), (9, .pointer (some ⟨a, 0, none⟩)), (10, .pointer (some ⟨a, 2, none⟩)), (11, .int .i64 (p : Int)), (12, .pointer (some ⟨a, 0, none⟩)), (13, .int .i64 most), (14, .int .i64 R)]) (J := fun L u ww => Chg (fun _ => False) W1 ww ∧ (L 9 = true → L 7 = true ∧ L 8 = true) ∧ (L 7 = true → ∃ b4 v4, u 4 = .pointer (some ⟨b4, 0, none⟩) ∧ W1.heap.size ≤ b4 ∧ ww.heap[b4]? = some (.cells #[v4] 3 (0, 0)) ∧ (L 9 = true → v4 = .int .i64 (p : Int))) ∧ (L 8 = true → ∃ b5, u 5 = .pointer (some ⟨b5, 0, none⟩) ∧ W1.heap.size ≤ b5 ∧ ww.heap[b5]? = some (.cells #[.int .i64 0] 3 (0, 0))) ∧ (L 7 = true → L 8 = true → u 4 ≠ u 5)) [6, 7, 8, 9] ([]) (fun _ => undef) rfl (by kernel_rfl) 10 _ rfl rfl (by kernel_rfl) (by kernel_rfl) ?_ ?_ ?_ ?_ ?_
  · repeat (refine ⟨fun _ _ => rfl, ?_⟩)
    exact trivial
  · intro L L2 u u2 ww h hj
    have e4 : u 4 = u2 4 := (h 7 (by decide)).2
    have e5 : u 5 = u2 5 := (h 8 (by decide)).2
    have l7 : L 7 = L2 7 := (h 7 (by decide)).1
    have l8 : L 8 = L2 8 := (h 8 (by decide)).1
    have l9 : L 9 = L2 9 := (h 9 (by decide)).1
    show _ ∧ _ ∧ _
    rw [← e4, ← e5, ← l7, ← l8, ← l9]
    exact hj
  · exact ⟨(Chg.refl _ W1).drew, (fun h => nomatch h), (fun h => nomatch h), (fun h => nomatch h), (fun h => nomatch h)⟩
  · refine ⟨?_, ?_, ?_, ?_, ?_, ?_, ?_, ?_, ?_, ?_, trivial⟩
    · show StepRS _ _ _ _ _ _ _ _ -- 8
      unfold StepRS
      intro L u w_ hj hd K hK
      clear hd
      have kq := cell_chg kb1 hj.1
      clear hj
      go_simp
      exact hK.out _ rfl
    · show StepRS _ _ _ _ _ _ _ _ -- 9
      unfold StepRS
      intro L u w_ hj hd K hK
      have h8 : u 8 = .pointer (some ⟨a, 0, none⟩) := hd.get 0 (by kernel_rfl)
      clear hd
      simp only [h8] at hK
      go_simp
      exact hK.out (.pointer (some ⟨a, 0, none⟩)) rfl
    · show StepRS _ _ _ _ _ _ _ _ -- 10
      unfold StepRS
      intro L u w_ hj hd K hK
      have h9 : u 9 = .pointer (some ⟨a, 0, none⟩) := hd.get 1 (by kernel_rfl)
      clear hd
      simp only [h9] at hK
      go_simp
      exact hK.out (.pointer (some ⟨a, 2, none⟩)) rfl
    · show StepRS _ _ _ _ _ _ _ _ -- 11
      unfold StepRS
      intro L u w_ hj hd K hK
      have h10 : u 10 = .pointer (some ⟨a, 2, none⟩) := hd.get 2 (by kernel_rfl)
      clear hd
      simp only [h10] at hK
      have kq := cell_chg kc2 hj.1
      clear hj
      go_simp
      exact hK.out _ rfl
    · show StepRS _ _ _ _ _ _ _ _ -- 12
      unfold StepRS
      intro L u w_ hj hd K hK
      clear hd
      have kq := cell_chg kb1 hj.1
      clear hj
      go_simp
      exact hK.out _ rfl
    · show StepRS _ _ _ _ _ _ _ _ -- 13
      unfold StepRS
      intro L u w_ hj hd K hK
      clear hd
      have kq := cell_chg kb2 hj.1
      clear hj
      go_simp
      exact hK.out _ rfl
    · show StepWS _ _ _ _ _ _ _ _ _ -- 14
      unfold StepWS
      intro L u w_ hj hli hwt hd K hK
      have h12 : u 12 = .pointer (some ⟨a, 0, none⟩) := hd.get 4 (by kernel_rfl)
      have h13 : u 13 = .int .i64 most := hd.get 5 (by kernel_rfl)
      clear hd
      simp only [h12, h13] at hK
      obtain ⟨hc, h9, h7, h8, hne⟩ := hj
      go_simp
      go_at_call 24
      refine (HRE.out w_ (chg_then HC1.out hc)).mono ?_
      rintro z w2 ⟨rfl, kk, rfl⟩
      refine hK.out _ _ ⟨chg_then hc (chg_drewN _ _), h9, fun e => ?_, fun e => ?_, hne⟩ rfl
      · obtain ⟨b4, v4, e4, g4, k4, q4⟩ := h7 e
        exact ⟨b4, v4, e4, g4, blk_keep k4 (chg_drewN _ _) (fun f => f), q4⟩
      · obtain ⟨b5, e5, g5, k5⟩ := h8 e
        exact ⟨b5, e5, g5, blk_keep k5 (chg_drewN _ _) (fun f => f)⟩
    · show StepWS _ _ _ _ _ _ _ _ _ -- 4
      unfold StepWS
      intro L u w_ hj hli hwt hd K hK
      clear hd
      obtain ⟨hc, h9, h7, h8, hne⟩ := hj
      have n9 : ¬ L 9 = true := fun e => by rw [(h9 e).1] at hli; cases hli
      have cN := chg_one w_ (.cells #[.int .i64 0] 3)
      go_simp
      refine hK.out _ _ ⟨hc.alloc _, fun e => absurd e n9, fun _ => ⟨_, _, rfl, hc.size, heap_alloc_last _ _, fun e => absurd e n9⟩, fun e => ?_, fun _ e => ?_⟩ trivial
      · obtain ⟨b5, e5, g5, k5⟩ := h8 e
        exact ⟨b5, e5, g5, blk_keep k5 cN (fun f => f)⟩
      · obtain ⟨b5, e5, g5, k5⟩ := h8 e
        have hlt := lt_of_blk k5
        show .pointer (some ⟨w_.heap.size, 0, none⟩) ≠ u 5
        rw [e5]
        intro e
        simp only [Value.pointer.injEq, Option.some.injEq, Addr.mk.injEq, and_true] at e
        omega
    · show StepWS _ _ _ _ _ _ _ _ _ -- 5
      unfold StepWS
      intro L u w_ hj hli hwt hd K hK
      clear hd
      obtain ⟨hc, h9, h7, h8, hne⟩ := hj
      have n9 : ¬ L 9 = true := fun e => by rw [(h9 e).2] at hli; cases hli
      have cN := chg_one w_ (.cells #[.int .i64 0] 3)
      go_simp
      refine hK.out _ _ ⟨hc.alloc _, fun e => absurd e n9, fun e => ?_, fun _ => ⟨_, rfl, hc.size, heap_alloc_last _ _⟩, fun e _ => ?_⟩ trivial
      · obtain ⟨b4, v4, e4, g4, k4, q4⟩ := h7 e
        exact ⟨b4, v4, e4, g4, blk_keep k4 cN (fun f => f), q4⟩
      · obtain ⟨b4, v4, e4, g4, k4, q4⟩ := h7 e
        have hlt := lt_of_blk k4
        show u 4 ≠ .pointer (some ⟨w_.heap.size, 0, none⟩)
        rw [e4]
        intro e
        simp only [Value.pointer.injEq, Option.some.injEq, Addr.mk.injEq, and_true] at e
        omega
    · show StepWS _ _ _ _ _ _ _ _ _ -- #9
      unfold StepWS
      intro L u w_ hj hli hwt hd K hK
      have h11 : u 11 = .int .i64 (p : Int) := hd.get 3 (by kernel_rfl)
      clear hd
      simp only [h11] at hK
      obtain ⟨hc, h9, h7, h8, hne⟩ := hj
      have l7 : L 7 = true := hwt ⟨7, .data⟩ (by simp) rfl
      have l8 : L 8 = true := hwt ⟨8, .phase⟩ (by simp) rfl
      obtain ⟨b4, v4, e4, hb4, hk4, _⟩ := h7 l7
      obtain ⟨b5, e5, hb5, hk5⟩ := h8 l8
      have hcell := (cells1 hk4).1
      have hfr := (cells1 hk4).2
      have HNE : Hid (u 4 ≠ u 5) := hne l7 l8
      have n45 : b5 ≠ b4 := fun e => HNE.out (by rw [e4, e5, e])
      have cS : Chg (fun z => z = b4) w_ (w_.setCell ⟨b4, 0, none⟩ (.int .i64 (p : Int))) := (Chg.refl (fun z => z = b4) w_).setCell (p := ⟨b4, 0, none⟩) (.inl rfl) _
      have cA : Chg (fun _ => False) W1 (w_.setCell ⟨b4, 0, none⟩ (.int .i64 (p : Int))) := hc.trans cS (fun z e => .inr (by omega))
      have hk4' := blk_set10 (u := .int .i64 (p : Int)) hk4
      have hk5' := blk_keep hk5 cS n45
      have HE : Hid (L 7 = true ∧ L 8 = true) := ⟨l7, l8⟩
      clear hne l7 l8 h7 h8 h9
      simp only [e4, e5] at hK ⊢
      go_simp
      exact hK.out undef _ ⟨cA, fun _ => HE.out, fun _ => ⟨b4, _, e4, hb4, hk4', fun _ => rfl⟩, fun _ => ⟨b5, e5, hb5, hk5'⟩, fun _ _ => HNE.out⟩ trivial
  · intro u w5 hj hA K hK
    obtain ⟨hc, _, h4, h5, hne⟩ := hj
    replace hne := hne rfl rfl
    obtain ⟨b4, v4, e4, hb4, hk4, hv4⟩ := h4 rfl
    obtain rfl := hv4 rfl
    obtain ⟨b5, e5, hb5, hk5⟩ := h5 rfl
    have e14 : u 14 = .int .i64 R := hA.at 14 (by kernel_rfl)
    have n45 : b4 ≠ b5 := fun e => hne (by rw [e4, e5, e])
    have cS : Chg (fun z => z = b5) w5 (w5.setCell ⟨b5, 0, none⟩ (.int .i64 R)) := (Chg.refl (fun z => z = b5) w5).setCell (p := ⟨b5, 0, none⟩) (.inl rfl) _
    have hcell := (cells1 hk5).1
    have hfr := (cells1 hk5).2
    have HCW : Hid (Chg (fun _ => False) W (w5.setCell ⟨b5, 0, none⟩ (.int .i64 R))) := (chg_then HC1.out hc).trans cS (fun z e => .inr (by have := HC1.out.size; omega))
    have HB3 : Hid ((w5.setCell ⟨b5, 0, none⟩ (.int .i64 R)).heap[W.heap.size]? = some (.cells #[.func (.yield l) #[] #[]] 62 (0, 0))) := blk_keep (blk_keep HK3.out hc (fun f => f)) cS (by have := HSZ.out; omega)
    have HB4 : Hid ((w5.setCell ⟨b5, 0, none⟩ (.int .i64 R)).heap[b4]? = some (.cells #[.int .i64 (p : Int)] 3 (0, 0))) := blk_keep hk4 cS n45
    have HB5 : Hid ((w5.setCell ⟨b5, 0, none⟩ (.int .i64 R)).heap[b5]? = some (.cells #[.int .i64 R] 3 (0, 0))) := blk_set10 hk5
    have HGE : Hid (W1.heap.size ≤ b4 ∧ W1.heap.size ≤ b5) := ⟨hb4, hb5⟩
    clear hA h4 h5 hv4 hk4 hk5 hne cS hc n45
    go_simp
    refine hK.out _ _ ?_
    clear hK e14 hcell hfr K
    clear e4 e5
    generalize w5.setCell ⟨b5, 0, none⟩ (.int .i64 R) = w2 at *
    obtain ⟨kr, _⟩ := cells1 HB5.out
    by_cases h3 : 3 ≤ rch d p most
    · obtain ⟨r, hr⟩ : ∃ r, rch d p most = r := ⟨_, rfl⟩
      have hRr : R = (r : Int) := by rw [← HRR.out, ← hr]; exact rch_int h3
      have hr3 : 3 ≤ r := by omega
      have hrb : r ≤ 273 ∧ p + r ≤ d.length := by
        rw [← hr] 
        unfold rch bnd at h3 ⊢
        omega
      have HMW : Hid (mat d n p most = (lastN 32 (win d (klT d) (p - n) p (klT d p))).reverse.map (fun q => (runN d p q (rch d p most), p - q))) := mat_win h3 (fun q hq => key_iff HF.out.dig (by unfold rch at h3; omega) hq)
      subst hRr
      have hg3 : decide ((r : Int) < 3) = false := by simp; omega
      have hg3' : decide (r < 3) = false := by simp; omega
      have kq1 : w2.cell? ⟨b1, 0, none⟩ = some (.pointer (some ⟨a, 0, none⟩)) := (cells1 (blk_keep HB1.out HCW.out (fun f => f))).1
      have HFW2 : Hid (Fi γ w2 B a d n p) := HF.out.keep HCW.out (fun _ _ f => f)
      have HCA : Hid _ := cands_q γ B a d n p w2 HFW2.out (by omega)
      rw [HFW2.out.tok.cut (klT d p)] at HCA
      obtain ⟨Cd, hCd⟩ : ∃ Cd, lastN 32 (win d (klT d) (p - n) p (klT d p)) = Cd := ⟨_, rfl⟩
      have HCD : Hid (Cd.length ≤ 32 ∧ ∀ q ∈ Cd, q < p) := by
        rw [← hCd]
        exact ⟨by rw [lastN_len]; omega, fun q hq => (plc_mem (List.mem_filter.1 (lastN_mem hq)).1).1⟩
      rw [hCd] at HCA HMW
      rw [hr] at HMW
      have HML : Hid (((mat d n p most).map mval).length = Cd.length) := by show _ = _; rw [HMW.out]; simp
      have HMT : Hid (∀ k, k < Cd.length → ((mat d n p most).map mval)[k]? = some (mval (runN d p (Cd.getD (Cd.length - 1 - k) 0) r, p - Cd.getD (Cd.length - 1 - k) 0))) := fun k hk => by
        rw [HMW.out, List.map_map, List.getElem?_map, List.getElem?_reverse hk, List.getD_eq_getElem?_getD, List.getElem?_eq_getElem (by omega)]
        rfl
      clear hCd h3 hr HRE
      go_wp2_with fail
      refine Calls.mono HCA.out ?_
      rintro z w3 ⟨⟨ad, c, rfl, hcc, hrd⟩, k3, rfl⟩
      have HRD : Hid _ := hrd
      have cD := chg_drewN w2 k3
      have HCW3 : Hid (Chg (fun _ => False) W (w2.drewN k3)) := chg_then HCW.out cD
      have HB3' : Hid ((w2.drewN k3).heap[W.heap.size]? = some (.cells #[.func (.yield l) #[] #[]] 62 (0, 0))) := blk_keep HB3.out cD (fun f => f)
      have HB4' : Hid ((w2.drewN k3).heap[b4]? = some (.cells #[.int .i64 (p : Int)] 3 (0, 0))) := blk_keep HB4.out cD (fun f => f)
      have HB5' : Hid ((w2.drewN k3).heap[b5]? = some (.cells #[.int .i64 (r : Int)] 3 (0, 0))) := blk_keep HB5.out cD (fun f => f)
      clear hrd cD HCA HCW HB3 HB4 HB5 HFW2 kr kq1 kb1 kb2 kc2
      generalize w2.drewN k3 = w3 at *
      have HBA : Hid _ := back_any ad Cd.length c w3
      go_wp2_with fail
      refine Calls.mono HBA.out ?_
      rintro z w4 ⟨rfl, rfl⟩
      obtain ⟨bb, hbb⟩ : ∃ bb, w3.heap.size = bb := ⟨_, rfl⟩
      have cN := chg_one w3 (.cells #[.slice ad Cd.length c] 39)
      have hbl := heap_alloc_last w3 (.cells #[.slice ad Cd.length c] 39)
      rw [hbb] at hbl ⊢
      have HCW4 : Hid (Chg (fun _ => False) W (w3.alloc (.cells #[.slice ad Cd.length c] 39))) := chg_then HCW3.out cN
      obtain ⟨N1, hN1⟩ : ∃ N1 : Nat → Prop, N1 = fun z => N0 z ∨ z = W.heap.size ∨ z = b4 ∨ z = b5 ∨ z = bb := ⟨_, rfl⟩
      have HN1 : Hid (N1 W.heap.size ∧ N1 b4 ∧ N1 b5 ∧ N1 bb ∧ ∀ z, N0 z → N1 z) := by
        rw [hN1]
        exact ⟨.inr (.inl rfl), .inr (.inr (.inl rfl)), .inr (.inr (.inr (.inl rfl))), .inr (.inr (.inr (.inr rfl))), fun z f => .inl f⟩
      have hs1 := HSZ.out
      have hb3' : bb ≤ (w3.alloc (.cells #[.slice ad Cd.length c] 39)).heap.size ∧ bb < (w3.alloc (.cells #[.slice ad Cd.length c] 39)).heap.size := ⟨Nat.le_of_lt (lt_of_blk hbl), lt_of_blk hbl⟩
      have hl4 := lt_of_blk HB4'.out
      have hl5 := lt_of_blk HB5'.out
      have hl3 := lt_of_blk HB3'.out
      obtain ⟨hg4, hg5⟩ := HGE.out
      have HM0 : Hid (MI J N1 l p r W.heap.size b4 b5 bb Cd.length c ad 0 (w3.alloc (.cells #[.slice ad Cd.length c] 39))) := by
        refine ⟨HMO.out N0 N1 W _ HJ0.out HCW4.out HN1.out.2.2.2.2 (fun z f => ?_) (fun z f => ?_), blk_keep HB3'.out cN (fun f => f), blk_keep HB4'.out cN (fun f => f), blk_keep HB5'.out cN (fun f => f), hbl⟩
        · rw [hN1] at f
          rcases f with f | f | f | f | f
          · exact .inl f
          · exact .inr (by omega)
          · exact .inr (by omega)
          · exact .inr (by omega)
          · exact .inr (by omega)
        · rw [hN1] at f
          rcases f with f | f | f | f | f
          · exact .inl f
          · exact .inr (by omega)
          · exact .inr (by omega)
          · exact .inr (by omega)
          · exact .inr (by omega)
      have HS4 : Hid (W.heap.size ≤ (w3.alloc (.cells #[.slice ad Cd.length c] 39)).heap.size) := HCW4.out.size
      have HLI : Hid (∀ k X, MI J N1 l p r W.heap.size b4 b5 bb Cd.length c ad k X → Lies X bb ad c Cd) := fun k X h => by
        obtain ⟨γ', p', hle, hF', _⟩ := HLV.out _ _ _ h.j
        exact ⟨h.ls, fun j x hx => HRD.out γ' X p' hle hF' j x hx⟩
      clear cN hbl hN1 HBA HB3' HB4' HB5' HCW3 hb3' hl3 hl4 hl5 hg4 hg5 hs1 HGE HJ0 hbb
      generalize w3.alloc (.cells #[.slice ad Cd.length c] 39) = w4 at *
      go_wp2_with fail
      refine wpIn_wide.1 (wp_range2T (gf := 33) (lb := #[.pointer (some ⟨bb, 0, none⟩)]) rfl (fun args w => by kernel_rfl) (back_go bb ad c Cd HCD.out.1 hcc) rfl
        (fun k X => MI J N1 l p r W.heap.size b4 b5 bb Cd.length c ad k X) (fun k X => Jx N1 k X)
        (fun T k a₁ X => MI J N1 l p r W.heap.size b4 b5 bb Cd.length c ad k X ∧ a₁ = { tmps := ((T.setIfInBounds 20 (.int .i64 ((Cd.length - 1 - k : Nat) : Int))).setIfInBounds 21 (.int .i64 ((Cd.getD (Cd.length - 1 - k) 0 : Nat) : Int))).setIfInBounds 7 (.int .i64 ((Cd.getD (Cd.length - 1 - k) 0 : Nat) : Int)), defers := [] })
        (fun k X Y h hc => h.turn hJt hc HS4.out) (fun k X Y h hc => hJxt _ _ _ _ h (hc.up HS4.out))
        (fun k a₁ X Y h hc => ⟨h.1.turn hJt hc HS4.out, h.2⟩)
        (fun X h => HLI.out 0 X h) (fun k X h => HLI.out k X h) HM0.out ?assign ?body ?done ?stop)
      case assign =>
        rintro l2 k hk X hA K hK
        have hkm : k < Cd.length := by rw [backV_len] at hk; exact hk
        have hv := (List.getElem?_eq_some_iff.1 (backV_at hkm)).2
        rw [hv]
        have HA : Hid (MI J N1 l p r W.heap.size b4 b5 bb Cd.length c ad k X) := hA
        clear hA hv
        gi_wp2
        exact hK _ _ ⟨HA.out, by simp only [List.setIfInBounds_toArray, List.set_cons_succ, List.set_cons_zero, List.getD_eq_getElem?_getD]⟩ (Calm.new (Chg.refl _ _))
      case body =>
        rintro l2 k hk a₁ X hBl hrec ⟨hA, rfl⟩
        simp only [List.setIfInBounds_toArray, List.set_cons_succ, List.set_cons_zero]
        have hkm : k < Cd.length := by rw [backV_len] at hk; exact hk
        have hmt := HMT.out k hkm
        have hqm : Cd.getD (Cd.length - 1 - k) 0 < p := HCD.out.2 _ (by rw [List.getD_eq_getElem?_getD, List.getElem?_eq_getElem (by omega)]; exact List.getElem_mem _)
        obtain ⟨q, hq⟩ : ∃ q, Cd.getD (Cd.length - 1 - k) 0 = q := ⟨_, rfl⟩
        rw [hq] at hmt hqm
        simp only [hq]
        clear hq
        obtain ⟨ix, hix⟩ : ∃ ix, Cd.length - 1 - k = ix := ⟨_, rfl⟩
        rw [hix]
        clear hix
        obtain ⟨γ', p', hle, hF', hx1, hx2⟩ := HLV.out _ _ _ hA.j
        obtain ⟨kb1, _⟩ := cells1 hx1
        obtain ⟨kb3, _⟩ := cells1 hA.y
        obtain ⟨kb4, _⟩ := cells1 hA.ps
        obtain ⟨kb5, _⟩ := cells1 hA.rs
        obtain ⟨rl, hrl⟩ : ∃ rl, runN d p q r = rl := ⟨_, rfl⟩
        obtain ⟨t, ht⟩ : ∃ t, p - q = t := ⟨_, rfl⟩
        have hti : (p : Int) - (q : Int) = (t : Int) := by omega
        have hqi : (q : Int) ≤ 140737488355328 := by omega
        have htb : (t : Int) ≤ 140737488355328 := by omega
        have hwt : IntKind.i64.wrap (t : Int) = (t : Int) := by
          simp [IntKind.wrap, IntKind.signed, IntKind.bits]
          omega
        have HAL : Hid (∀ ww, Chg (fun _ => False) X ww → Calls Try.prog 30 #[.pointer (some ⟨a, 0, none⟩), .int .i64 (q : Int), .int .i64 (p : Int), .int .i64 (r : Int)] ww fun e w' => e = .returned (.int .i64 (rl : Int)) ∧ ∃ k, w' = ww.drewN k) := fun ww hc => by
          have hFw := hF'.keep hc (fun _ _ f => f)
          have := alike_q a _ _ _ γ'.da d.length γ'.dc d p q r ww hFw.blk' hFw.row (by omega) hrb.2 hLb hrb.1
          rw [hrl] at this
          exact this
        have HYK : Hid (∀ ww, J N1 k ww → YieldAt Fence.wide 0 Try.prog l #[.agg #[.int .i64 (rl : Int), .int .i64 (t : Int)]] ww fun e X' => ((e = .returned (.bool true) ∧ J N1 (k + 1) X') ∨ (e = .returned (.bool false) ∧ Jx N1 (k + 1) X')) ∧ Calm N1 W.heap.size ww X') := fun ww hj => by
          obtain ⟨hlt, hv⟩ := List.getElem?_eq_some_iff.1 hmt
          have := HY.out N1 k ww hlt hj
          rw [hv, hrl, ht] at this
          exact this
        have HIK : Hid (MI J N1 l p r W.heap.size b4 b5 bb Cd.length c ad k X) := hA
        clear hmt hrl ht hle hF' hx1 hx2 hA hrec
        gi_wp2
        refine wpIn_region_phaseQ (mk := fun u => #[_, _, _, _, _, _, _, _, _, _, _, _, _, _, _, _, _, _, _, _, _, _, u 22, u 23, u 24, u 25, u 26, u 27, u 28, u 29, u 30, u 31, u 32, _]) (G := lookG [(22, .func (.yield l) #[] #[]), (23, .pointer (some ⟨a, 0, none⟩)), (24, .int .i64 (q : Int)), (25, .int .i64 (p : Int)), (26, .int .i64 (r : Int)), (27, .int .i64 (rl : Int)), (28, .int .i64 (p : Int)), (29, .int .i64 (q : Int)), (30, .int .i64 (t : Int)), (31, .agg #[.int .i64 (rl : Int), .int .i64 (t : Int)])]) (J := fun nn u ww => (nn ≤ 1 ∧ Chg (fun _ => False) X ww) ∨ (nn = 2 ∧ ((u 32 = .bool true ∧ J N1 (k + 1) ww) ∨ (u 32 = .bool false ∧ Jx N1 (k + 1) ww)) ∧ Calm N1 W.heap.size X ww)) [5, 10] (fun i => if i = 0 then 1 else if i = 1 then 1 else if i = 2 then 1 else if i = 3 then 1 else if i = 4 then 1 else if i = 6 then 1 else if i = 7 then 1 else if i = 8 then 1 else if i = 9 then 1 else 2) ([]) (fun _ => undef) rfl (by kernel_rfl) 11 _ rfl rfl (by kernel_rfl) (by kernel_rfl) (by kernel_rfl) (by decide) ?_ ?_ ?_ (by kernel_rfl) ?_ ?_
        · repeat (refine ⟨fun _ _ => rfl, ?_⟩)
          exact trivial
        · intro qn u u2 ww h hj
          have e32 : u 32 = u2 32 := h 10 (by decide)
          show _ ∨ _
          rw [← e32]
          exact hj
        · exact .inl ⟨by omega, (Chg.refl _ X).drew⟩
        · refine ⟨?_, ?_, ?_, ?_, ?_, ?_, ?_, ?_, ?_, ?_, ?_, trivial⟩
          · refine StepRQ.inI (fun _ h => nomatch h) ?_
            show StepRQ _ _ _ _ _ _ _ _ _ -- 22
            unfold StepRQ
            intro qn hq u w_ hj hd K hK
            clear hd
            have hq : qn ≤ 1 := hq
            have hc : Chg (fun _ => False) X w_ := by
              rcases hj with hj | hj
              · exact hj.2
              · omega
            clear hj
            have kq := cell_chg kb3 hc
            clear hc
            go_simp
            exact hK.out _ rfl
          · refine StepRQ.inI (fun _ h => nomatch h) ?_
            show StepRQ _ _ _ _ _ _ _ _ _ -- 23
            unfold StepRQ
            intro qn hq u w_ hj hd K hK
            clear hd
            have hq : qn ≤ 1 := hq
            have hc : Chg (fun _ => False) X w_ := by
              rcases hj with hj | hj
              · exact hj.2
              · omega
            clear hj
            have kq := cell_chg kb1 hc
            clear hc
            go_simp
            exact hK.out _ rfl
          · refine StepRQ.inI (fun _ h => nomatch h) ?_
            show StepRQ _ _ _ _ _ _ _ _ _ -- 24
            unfold StepRQ
            intro qn hq u w_ hj hd K hK
            clear hd
            clear hj
            go_simp
            exact hK.out (.int .i64 (q : Int)) rfl
          · refine StepRQ.inI (fun _ h => nomatch h) ?_
            show StepRQ _ _ _ _ _ _ _ _ _ -- 25
            unfold StepRQ
            intro qn hq u w_ hj hd K hK
            clear hd
            have hq : qn ≤ 1 := hq
            have hc : Chg (fun _ => False) X w_ := by
              rcases hj with hj | hj
              · exact hj.2
              · omega
            clear hj
            have kq := cell_chg kb4 hc
            clear hc
            go_simp
            exact hK.out _ rfl
          · refine StepRQ.inI (fun _ h => nomatch h) ?_
            show StepRQ _ _ _ _ _ _ _ _ _ -- 26
            unfold StepRQ
            intro qn hq u w_ hj hd K hK
            clear hd
            have hq : qn ≤ 1 := hq
            have hc : Chg (fun _ => False) X w_ := by
              rcases hj with hj | hj
              · exact hj.2
              · omega
            clear hj
            have kq := cell_chg kb5 hc
            clear hc
            go_simp
            exact hK.out _ rfl
          · refine StepWQ.inI (fun _ h => nomatch h) ?_
            show StepWQ _ _ _ _ _ _ _ _ _ -- 27
            unfold StepWQ
            intro u w_ hj hd K hK
            have h23 : u 23 = .pointer (some ⟨a, 0, none⟩) := hd.get 1 (by kernel_rfl)
            have h24 : u 24 = .int .i64 (q : Int) := hd.get 2 (by kernel_rfl)
            have h25 : u 25 = .int .i64 (p : Int) := hd.get 3 (by kernel_rfl)
            have h26 : u 26 = .int .i64 (r : Int) := hd.get 4 (by kernel_rfl)
            clear hd
            simp only [h23, h24, h25, h26] at hK
            have hc : Chg (fun _ => False) X w_ := by
              rcases hj with hj | hj
              · exact hj.2
              · omega
            clear hj
            go_simp
            go_at_call 30
            refine (HAL.out w_ hc).mono ?_
            rintro z w2 ⟨rfl, kk, rfl⟩
            exact hK.out _ _ (.inl ⟨by omega, chg_then hc (chg_drewN _ _)⟩) rfl
          · refine StepRQ.inI (fun _ h => nomatch h) ?_
            show StepRQ _ _ _ _ _ _ _ _ _ -- 28
            unfold StepRQ
            intro qn hq u w_ hj hd K hK
            clear hd
            have hq : qn ≤ 1 := hq
            have hc : Chg (fun _ => False) X w_ := by
              rcases hj with hj | hj
              · exact hj.2
              · omega
            clear hj
            have kq := cell_chg kb4 hc
            clear hc
            go_simp
            exact hK.out _ rfl
          · refine StepRQ.inI (fun _ h => nomatch h) ?_
            show StepRQ _ _ _ _ _ _ _ _ _ -- 29
            unfold StepRQ
            intro qn hq u w_ hj hd K hK
            clear hd
            clear hj
            go_simp
            exact hK.out (.int .i64 (q : Int)) rfl
          · refine StepRQ.inI (fun _ h => nomatch h) ?_
            show StepRQ _ _ _ _ _ _ _ _ _ -- 30
            unfold StepRQ
            intro qn hq u w_ hj hd K hK
            have h28 : u 28 = .int .i64 (p : Int) := hd.get 6 (by kernel_rfl)
            have h29 : u 29 = .int .i64 (q : Int) := hd.get 7 (by kernel_rfl)
            clear hd
            simp only [h28, h29] at hK
            clear hj
            go_simp
            exact hK.out (.int .i64 (t : Int)) rfl
          · refine StepRQ.inI (fun _ h => nomatch h) ?_
            show StepRQ _ _ _ _ _ _ _ _ _ -- 31
            unfold StepRQ
            intro qn hq u w_ hj hd K hK
            have h27 : u 27 = .int .i64 (rl : Int) := hd.get 5 (by kernel_rfl)
            have h30 : u 30 = .int .i64 (t : Int) := hd.get 8 (by kernel_rfl)
            clear hd
            simp only [h27, h30] at hK
            clear hj
            go_simp
            exact hK.out (.agg #[.int .i64 (rl : Int), .int .i64 (t : Int)]) rfl
          · show StepWQI _ _ _ _ _ _ _ _ _ _ -- 32
            unfold StepWQI
            intro u w_ hj hd K hK
            have h22 : u 22 = .func (.yield l) #[] #[] := hd.get 0 (by kernel_rfl)
            have h31 : u 31 = .agg #[.int .i64 (rl : Int), .int .i64 (t : Int)] := hd.get 9 (by kernel_rfl)
            clear hd
            have hc : Chg (fun _ => False) X w_ := by
              rcases hj with hj | hj
              · exact hj.2
              · omega
            clear hj
            refine step_yield (a := ⟨_, []⟩) (by rfl) (.tmp 22) (.tmp 31) 30 (.agg #[.int .i64 (rl : Int), .int .i64 (t : Int)]) (by rfl) (by exact h22) (by exact h31) (HYK.out w_ (hJt _ _ _ _ HIK.out.j (Turn.new hc))) ?_
            rintro e w' ⟨hh, hcalm⟩
            have hcl := (Calm.new (N := N1) (B := W.heap.size) hc).trans hcalm
            rcases hh with ⟨rfl, hh⟩ | ⟨rfl, hh⟩
            · exact ⟨_, rfl, hK.out _ w' (.inr ⟨rfl, .inl ⟨rfl, hh⟩, hcl⟩) trivial⟩
            · exact ⟨_, rfl, hK.out _ w' (.inr ⟨rfl, .inr ⟨rfl, hh⟩, hcl⟩) trivial⟩
        · intro u w6 hj hA K hK
          obtain ⟨hjj, hcl⟩ : ((u 32 = .bool true ∧ J N1 (k + 1) w6) ∨ (u 32 = .bool false ∧ Jx N1 (k + 1) w6)) ∧ Calm N1 W.heap.size X w6 := by
            rcases hj with ⟨hj, _⟩ | hj
            · exact absurd hj (by decide)
            · exact hj.2
          have HCL : Hid (Calm (fun _ => False) w4.heap.size X w6) := (hcl.less (fun _ f => f.elim)).up HS4.out
          rcases hjj with ⟨e32, hJ⟩ | ⟨e32, hJ⟩
          · have HI2 : Hid (MI J N1 l p r W.heap.size b4 b5 bb Cd.length c ad (k + 1) w6) := ⟨hJ, hcl.own HN1.out.1 HIK.out.y, hcl.own HN1.out.2.1 HIK.out.ps, hcl.own HN1.out.2.2.1 HIK.out.rs, hcl.own HN1.out.2.2.2.1 HIK.out.ls⟩
            clear hA hj hcl hJ
            refine last_in ?_ ?_
            · intro c h
              cases h
            go_simp
            refine hK.out _ _ ?_
            clear hK e32 K
            gi_wp2
            exact ⟨HCL.out, HI2.out⟩
          · have HI2 : Hid (Jx N1 (k + 1) w6) := hJ
            clear hA hj hcl hJ
            refine last_in ?_ ?_
            · intro c h
              cases h
            go_simp
            refine hK.out _ _ ?_
            clear hK e32 K
            gi_wp2
            exact ⟨HCL.out, rfl, HI2.out⟩
      case done =>
        rintro D X hD hA hdef
        rw [backV_len] at hA
        have HE : Hid (J N1 Cd.length (X.putObj D (.deferred none))) := hJt _ _ _ _ hA.j (Turn.put _ (by have := HS4.out; omega) hdef rfl)
        clear hA
        go_wp2
        exact leave_marked (.inl rfl) rfl hdef ⟨⟨_, rfl⟩, N1, HN1.out.2.2.2.2, .inl (by rw [HML.out]; exact HE.out)⟩
      case stop =>
        rintro D k X hD h1 h2 hA hdef
        rw [backV_len] at h2
        have HE : Hid (Jx N1 k (X.putObj D (.deferred none))) := hJxt _ _ _ _ hA (Turn.put _ (by have := HS4.out; omega) hdef rfl)
        clear hA
        refine wpIn_wide.2 ?_
        go_wp2
        exact leave_marked (.inr rfl) rfl hdef ⟨⟨_, rfl⟩, N1, HN1.out.2.2.2.2, .inr ⟨k, h1, by rw [HML.out]; exact h2, HE.out⟩⟩
    · have hRf : R < 3 := by rw [← HRR.out]; exact rch_few h3
      have hg3 : decide (R < 3) = true := decide_eq_true hRf
      have HM0 : Hid (mat d n p most = []) := mat_none (by omega)
      have HE : Hid (J N0 0 w2) := hJt _ _ _ _ HJ0.out (Turn.new HCW.out)
      clear h3
      go_wp2
      exact leave_plain (.inr rfl) rfl ⟨⟨_, rfl⟩, N0, fun _ f => f, .inl (by rw [HM0.out]; exact HE.out)⟩
end Go.Proofs.Ytkdionoelbiidaa
