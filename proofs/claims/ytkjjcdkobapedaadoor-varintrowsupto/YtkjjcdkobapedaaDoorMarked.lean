/- The contract of marked; of no statement by itself. -/
import Derived.Test.YtkjjcdkobapedaaDoorPcs
namespace Go.Proofs.YtkjjcdkobapedaaDoor
open Go.RowKit
set_option linter.unusedSimpArgs false

/-- An operation taken first, its slot told. -/
theorem take_at {P : Program} {md : Region.Mode} {ops : Array Oper} {Q : Exit → Act → World → Prop} {S : World → Prop} {i : Nat} {oi : Oper} {d : Option Tmp} {v : Value} {fuel : Nat} {listed : Array Bool} {a : Act} {w : World} (hi : ops[i]? = some oi) (hd : oi.dst = d)
    (hs : Region.noSelect ops = true) (hf : Region.free md ops listed i = true) (hr : (Region.ready md ops listed).contains i = true)
    (hQ : ∀ c a w, Q (.panic c) (a.put d v) w → Q (.panic c) a w) (hy : YieldsIf P ops S oi v a) (hS : S w)
    (h : wpAnyH P md ops Q S fuel (listed.setIfInBounds i true) (a.put d v) w) : wpAnyH P md ops Q S (fuel + 1) listed a w := by
  subst hd
  exact wpAnyH_take hi hs hf hr hQ hy hS h

/-- More may be asked of the world than must be. -/
theorem wpAnyH_strong {P : Program} {md : Region.Mode} {ops : Array Oper} {Q : Exit → Act → World → Prop} {S T : World → Prop} (h : ∀ w, T w → S w) : ∀ (fuel : Nat) (listed : Array Bool) (a : Act) (w : World), wpAnyH P md ops Q T fuel listed a w → wpAnyH P md ops Q S fuel listed a w
  | 0, _, _, _, k => k
  | fuel + 1, _, _, _, k => ⟨k.1, fun i hi => wpOp_mono (fun a' w' h' => ⟨h w' h'.1, wpAnyH_strong h fuel _ a' w' h'.2⟩) (k.2 i hi)⟩

set_option maxRecDepth 100000 in
set_option maxHeartbeats 4000000 in
theorem marked_any (B : Nat) (av : Value) (ps : List (Nat × Nat)) (F : Nat → List Int) (w : World) (hP : Pcs B w ps F) (hj : Inj ps) (ha : w.ownsRow B 24 1 av ps.length (ps.map pcell)) (hm : ps.length ≤ 1048576) (h1 : ∀ p ∈ ps, 1 ≤ p.2) (h9 : ∀ p ∈ ps, p.2 ≤ 9) (hB : B ≤ w.heap.size) :
    Calls Tryd.prog 14 #[av] w fun e w' => e = .returned (.bool true) ∧ Chg (fun b => B ≤ b) w w' := by
  obtain ⟨j0, hj0, hy0, hy1, hy2⟩ := info_parts info24
  obtain ⟨aa, ac, rfl, hag⟩ := own_slice24 ha
  have hM : Mk1 B ps (.slice aa ps.length ac) w 0 w := ⟨F, hP, fun j p h => by omega, ha, Chg.refl _ _⟩
  obtain ⟨m, hml⟩ : ∃ m, ps.length = m := ⟨_, rfl⟩
  have HL : Hid (ps.length = m) := hml
  rw [hml] at hm hag hM ⊢
  clear hP ha hml
  go_enter Tryd.func14, Tryd.ntmps14
  go_wp2_with fail
  go_loopw [11] (fun i wr => ∃ k : Nat, k ≤ m ∧ i = .int .i64 k ∧ Mk1 B ps (.slice aa m ac) w k wr) (fun i _ => m - (intOf i).toNat)
  case atStart => exact ⟨0, Nat.zero_le _, rfl, hM⟩
  case round =>
    clear hM
    obtain ⟨k, hk, rfl, hM⟩ := hrel
    by_cases hlt : k < m
    · obtain ⟨ga, rfl⟩ := hag (by omega)
      obtain ⟨p, hp⟩ : ∃ p, ps[k]? = some p := ⟨ps[k]'(by rw [HL.out]; exact hlt), List.getElem?_eq_getElem _⟩
      have hc0 := Mk1.cell (by rw [HL.out]; exact hM) hp
      have hM2 := hM.start
      have hp9 := h9 p (List.mem_of_getElem? hp)
      obtain ⟨g, n⟩ := p
      simp only at hc0 hp9
      have hw8 : IntKind.u8.wrap (k : Int) = mk k := by simp [IntKind.wrap, IntKind.signed, IntKind.bits, mk]
      clear hM
      go_wp2_with fail
      go_loopw [19] (fun i wr => ∃ q : Nat, q ≤ n ∧ i = .int .i64 q ∧ Mk2 B ps (.slice (some ⟨ga, 0, none⟩) m ac) w k q wr) (fun i _ => n - (intOf i).toNat)
      case atStart => exact ⟨0, Nat.zero_le _, rfl, hM2⟩
      case round =>
        clear hM2 hc0
        obtain ⟨q, hq, rfl, hM2⟩ := hrel
        by_cases hltq : q < n
        · obtain ⟨c1, ⟨u, c2⟩, c3⟩ := Mk2.at (by rw [HL.out]; exact hM2) hp hltq
          simp only at c1 c2 c3
          have hS := hM2.step hj hp hltq
          simp only at hS
          clear hM2
          go_wp2
          go_roundw
          case rel => exact ⟨q + 1, by omega, by go_num, hS⟩
          case measure => simp [intOf]; omega
        · obtain rfl : q = n := by omega
          have hD := hM2.done hp
          clear hM2
          go_wp2
          go_roundw
          case rel => exact ⟨k + 1, by omega, by go_num, hD⟩
          case measure => simp [intOf]; omega
    · obtain rfl : k = m := by omega
      obtain ⟨hA, hO, hC⟩ := Mk1.all (by rw [HL.out]; exact hM)
      rw [HL.out] at hO
      clear hM
      have hL0 : Lg wr.heap.size ps wr 0 (.slice none 0 0) [] wr := ⟨rfl, World.ownsRow_nil _ _ _ _, fun i q p e => by simp at e, Chg.refl _ _⟩
      generalize wr = w1 at *
      have hB1 : B ≤ w1.heap.size := Nat.le_trans hB hC.size
      go_wp2_with fail
      go_loopw [5, 34] (fun l i wr => ∃ k2 : Nat, k2 ≤ k ∧ i = .int .i64 k2 ∧ ∃ qs, Lg w1.heap.size ps w1 k2 l qs wr) (fun _ i _ => k - (intOf i).toNat)
      case atStart => exact ⟨0, Nat.zero_le _, rfl, [], hL0⟩
      case round =>
        clear hL0
        obtain ⟨k2, hk2, rfl, qs, hL⟩ := hrel
        by_cases hlt2 : k2 < k
        · obtain ⟨ga, rfl⟩ := hag (by omega)
          obtain ⟨p, hp⟩ : ∃ p, ps[k2]? = some p := ⟨ps[k2]'(by rw [HL.out]; exact hlt2), List.getElem?_eq_getElem _⟩
          have hp9 := h9 p (List.mem_of_getElem? hp)
          obtain ⟨hpb, hpc⟩ := hA k2 p hp
          have hD : Chg (fun _ => False) wr wr.drew := ⟨rfl, rfl, rfl, Nat.le_refl _, fun _ _ _ => rfl⟩
          have hLd := hL.new hD
          have hOd := ownsRow_keep hO hLd.2.2.2 (fun _ _ f => f)
          have hbd := blk_keep hpc hLd.2.2.2 (fun f => f)
          have hga : ga < w1.heap.size := (hO.lt ga rfl).2
          have f1 : wr.drew.cell? ⟨ga, k2, none⟩ = some (.slice (some ⟨p.1, 0, none⟩) p.2 p.2) := by
            rw [hOd.cellAt k2 (by omega), List.getElem?_map, hp]
            rfl
          obtain ⟨g, n⟩ := p
          simp only at f1 hp9 hpb hbd hpc
          obtain ⟨la, lc, rfl, _⟩ := own_slice24 hL.2.1
          clear hD hL
          go_wp2_with fail
          refine wp_region_noPanic ?_
          refine wp_region_held_drew (S := fun w' => w'.cell? ⟨ga, k2, none⟩ = some (.slice (some ⟨g, 0, none⟩) n n)) (by kernel_rfl) f1 (fun hHeld => ?_)
          refine take_at (i := 0) (d := some 37) (v := ?_) rfl rfl (by kernel_rfl) (by kernel_rfl) (by kernel_rfl) (fun _ _ _ h => h) (Or.inl ⟨by rfl, ?_⟩) (by assumption) ?_
          rotate_left
          · intro w hSw; first | (go_simp; done) | (go_simp; with_reducible rfl)
          simp only [Act.put, List.setIfInBounds_toArray, List.set_cons_zero, List.set_cons_succ]
          refine take_at (i := 1) (d := some 38) (v := ?_) rfl rfl (by kernel_rfl) (by kernel_rfl) (by kernel_rfl) (fun _ _ _ h => h) (Or.inl ⟨by rfl, ?_⟩) (by assumption) ?_
          rotate_left
          · intro w hSw; first | (go_simp; done) | (go_simp; with_reducible rfl)
          simp only [Act.put, List.setIfInBounds_toArray, List.set_cons_zero, List.set_cons_succ]
          refine take_at (i := 2) (d := some 39) (v := ?_) rfl rfl (by kernel_rfl) (by kernel_rfl) (by kernel_rfl) (fun _ _ _ h => h) (Or.inl ⟨by rfl, ?_⟩) (by assumption) ?_
          rotate_left
          · intro w hSw; first | (go_simp; done) | (go_simp; with_reducible rfl)
          simp only [Act.put, List.setIfInBounds_toArray, List.set_cons_zero, List.set_cons_succ]
          refine take_at (i := 3) (d := some 40) (v := ?_) rfl rfl (by kernel_rfl) (by kernel_rfl) (by kernel_rfl) (fun _ _ _ h => h) (Or.inl ⟨by rfl, ?_⟩) (by assumption) ?_
          rotate_left
          · intro w hSw; first | (go_simp; done) | (go_simp; with_reducible rfl)
          simp only [Act.put, List.setIfInBounds_toArray, List.set_cons_zero, List.set_cons_succ]
          refine take_at (i := 4) (d := some 41) (v := ?_) rfl rfl (by kernel_rfl) (by kernel_rfl) (by kernel_rfl) (fun _ _ _ h => h) (Or.inl ⟨by rfl, ?_⟩) (by assumption) ?_
          rotate_left
          · intro w hSw; first | (go_simp; done) | (go_simp; with_reducible rfl)
          simp only [Act.put, List.setIfInBounds_toArray, List.set_cons_zero, List.set_cons_succ]
          refine take_at (i := 5) (d := some 42) (v := ?_) rfl rfl (by kernel_rfl) (by kernel_rfl) (by kernel_rfl) (fun _ _ _ h => h) (Or.inl ⟨by rfl, ?_⟩) (by assumption) ?_
          rotate_left
          · intro w hSw; first | (go_simp; done) | (go_simp; with_reducible rfl)
          simp only [Act.put, List.setIfInBounds_toArray, List.set_cons_zero, List.set_cons_succ]
          refine wpAnyH_ready (rs := [6]) (by kernel_rfl) (by simp) ?_
          refine AllReadyH.cons (o := ⟨some 43, .call ⟨.value (.func 21), #[.tmp 42], #[3]⟩, _, _, _, _⟩) rfl (fun K hK => ?_) AllReadyH.nil
          go_simp
          go_at_call 21
          refine (tail_any k2 _ (by omega)).mono ?_
          rintro e w2 ⟨tp, rfl, ht2, hc2⟩
          obtain ⟨ta, tc, rfl, htr, -⟩ := own_row8c ht2
          have hO2 := ownsRow_keep hOd hc2 (fun _ _ f => f)
          have g1 : w2.cell? ⟨ga, k2, none⟩ = some (.slice (some ⟨g, 0, none⟩) n n) := by
            rw [hO2.cellAt k2 (by omega), List.getElem?_map, hp]
            rfl
          have hb2 := blk_keep hbd hc2 (fun f => f)
          refine hK.out _ _ g1 (fun hHeld2 => ?_)
          clear hK K hHeld f1 ht2
          (try simp only [Act.put, List.setIfInBounds_toArray, List.set_cons_zero, List.set_cons_succ])
          refine wpAnyH_ready (rs := [7]) (by kernel_rfl) (by simp) ?_
          refine AllReadyH.cons (o := ⟨some 44, .call ⟨.builtin .append, #[.tmp 41, .tmp 43], #[24, 24]⟩, _, _, _, _⟩) rfl (fun K hK => ?_) AllReadyH.nil
          refine step_append_full rfl (.tmp 41) (.tmp 43) rfl g n (List.replicate n (mk k2)) rfl ta 70 tc rfl (List.replicate 70 (tm k2)) hb2 (by simp) htr (by omega) (by omega) ?_
          intro v3 w3 ho3 hc3
          obtain ⟨va, vc, rfl⟩ := own_slice ho3
          have hO3 := ownsRow_keep hO2 hc3 (fun _ _ f => f)
          have g2 : w3.cell? ⟨ga, k2, none⟩ = some (.slice (some ⟨g, 0, none⟩) n n) := by
            rw [hO3.cellAt k2 (by omega), List.getElem?_map, hp]
            rfl
          refine hK.out _ _ g2 (fun hHeld3 => ?_)
          clear hK K hHeld2 g1
          (try simp only [Act.put, List.setIfInBounds_toArray, List.set_cons_zero, List.set_cons_succ])
          refine wpAnyH_ready (rs := [8]) (by kernel_rfl) (by simp) ?_
          refine AllReadyH.cons (o := ⟨some 45, .buildSlice 37 1 #[(0, .tmp 44)], _, _, _, _⟩) rfl (fun K hK => ?_) AllReadyH.nil
          go_simp
          have hO4 := hO3.alloc (.cells #[.slice va (n + 70) vc] 24)
          have g3 : (w3.alloc (.cells #[.slice va (n + 70) vc] 24)).cell? ⟨ga, k2, none⟩ = some (.slice (some ⟨g, 0, none⟩) n n) := by
            rw [hO4.cellAt k2 (by omega), List.getElem?_map, hp]
            rfl
          refine hK.out _ _ g3 (fun hHeld4 => ?_)
          clear hK K hHeld3 g2
          (try simp only [Act.put, List.setIfInBounds_toArray, List.set_cons_zero, List.set_cons_succ])
          have hc24 : Chg (fun _ => False) wr.drew (w3.alloc (.cells #[.slice va (n + 70) vc] 24)) := (hc2.trans hc3 (fun _ f => f.elim)).alloc _
          have hL4 := hLd.new hc24
          have hs4 := hL4.2.2.2.size
          have hv4 : (w3.alloc (.cells #[.slice va (n + 70) vc] 24)).ownsRow w1.heap.size 5 1 (.slice va (n + 70) vc) (n + 70) (cells8 (List.replicate n (mk k2) ++ List.replicate 70 (tm k2))) := own_base (ho3.alloc _) (by have := (hLd.new hc2).2.2.2.size; omega)
          refine wpAnyH_ready (rs := [9]) (by kernel_rfl) (by simp) ?_
          refine AllReadyH.cons (o := ⟨some 46, .call ⟨.builtin .append, #[.tmp 37, .tmp 45], #[37, 37]⟩, _, _, _, _⟩) rfl (fun K hK => ?_) AllReadyH.nil
          refine step_append_moved rfl (.tmp 37) (.tmp 45) 37 rfl w1.heap.size 24 j0 (.slice none 0 0) 1 24 Tryd.underlying37 hj0 hy0 hy1 hy2 rfl (by decide) (.slice la k2 lc) k2 qs rfl (some ⟨w3.heap.size, 0, none⟩) 1 1 rfl [.slice va (n + 70) vc] hL4.2.1 (from_one w3 _ 24) (fun u hu => by simp at hu; subst hu; rfl) (by unfold maxLen; omega) (by omega) hs4 ?_
          intro v5 w5 ho5 hg5 hm5
          obtain ⟨ba, bc, rfl, -⟩ := own_slice24 ho5
          have hL5 := hLd.more rfl hp hc24 hv4 ho5 hg5
          have hO5 := ownsRow_keep hO hL5.2.2.2 (fun _ _ f => f)
          have g4 : w5.cell? ⟨ga, k2, none⟩ = some (.slice (some ⟨g, 0, none⟩) n n) := by
            rw [hO5.cellAt k2 (by omega), List.getElem?_map, hp]
            rfl
          refine hK.out _ _ g4 (fun hHeld5 => ?_)
          clear hK K hHeld4 g3 ho5 hg5 hm5 hv4 hL4 hO4 hO5 hO3 hO2 hOd hb2 hbd htr ho3 hc24 hc2 hc3 hLd
          (try simp only [Act.put, List.setIfInBounds_toArray, List.set_cons_zero, List.set_cons_succ])
          refine take_at (i := 10) (d := some 5) (v := ?_) rfl rfl (by kernel_rfl) (by kernel_rfl) (by kernel_rfl) (fun _ _ _ h => h) (Or.inl ⟨by rfl, ?_⟩) (by assumption) ?_
          rotate_left
          · intro w hSw; first | (go_simp; done) | (go_simp; with_reducible rfl)
          simp only [Act.put, List.setIfInBounds_toArray, List.set_cons_zero, List.set_cons_succ]
          refine wpAnyH_done (by kernel_rfl) ?_ _
          refine NoPanic.normal ?_
          clear hHeld5 g4
          go_wp2
          go_roundw
          case rel => exact ⟨k2 + 1, by omega, by go_num, _, hL5⟩
          case measure => simp [intOf]; omega
        · obtain rfl : k2 = k := by omega
          have hCw : Chg (fun b => B ≤ b) w wr := chg_then hC hL.2.2.2
          have hO2 := ownsRow_keep hO hL.2.2.2 (fun _ _ f => f)
          have hA2 : ∀ (j : Nat) (p : Nat × Nat), ps[j]? = some p → wr.heap[p.1]? = some (.cells (cells8 (List.replicate p.2 (mk j))).toArray 5 (0, 0)) := fun j p e => blk_keep (hA j p e).2 hL.2.2.2 (fun f => f)
          obtain ⟨hql, hlo, hlq, -⟩ := hL
          obtain ⟨la, lc, rfl, hlg⟩ := own_slice24 hlo
          clear hA hO hC
          generalize wr = w2 at *
          go_wp2_with fail
          go_loopw [50] (fun i wr => ∃ k3 : Nat, k3 ≤ k2 ∧ i = .int .i64 k3 ∧ Chg (fun _ => False) w2 wr) (fun i _ => k2 - (intOf i).toNat)
          case atStart => exact ⟨0, Nat.zero_le _, rfl, Chg.refl _ _⟩
          case round =>
            obtain ⟨k3, hk3, rfl, hc3⟩ := hrel
            by_cases hlt3 : k3 < k2
            · obtain ⟨ga, rfl⟩ := hag (by omega)
              obtain ⟨gl, rfl⟩ := hlg (by omega)
              obtain ⟨p, hp⟩ : ∃ p, ps[k3]? = some p := ⟨ps[k3]'(by rw [HL.out]; exact hlt3), List.getElem?_eq_getElem _⟩
              obtain ⟨q, hq⟩ : ∃ q, qs[k3]? = some q := ⟨qs[k3]'(by omega), List.getElem?_eq_getElem _⟩
              have hp9 := h9 p (List.mem_of_getElem? hp)
              have hp1 := h1 p (List.mem_of_getElem? hp)
              have hOr := ownsRow_keep hO2 hc3 (fun _ _ f => f)
              have hlr := ownsRow_keep hlo hc3 (fun _ _ f => f)
              have hqr := ownsRow_keep (hlq k3 q p hq hp) hc3 (fun _ _ f => f)
              have hbr := blk_keep (hA2 k3 p hp) hc3 (fun f => f)
              obtain ⟨g, n⟩ := p
              simp only at hp9 hp1 hqr hbr
              have c1 : wr.cell? ⟨ga, k3, none⟩ = some (.slice (some ⟨g, 0, none⟩) n n) := by
                rw [hOr.cellAt k3 (by omega), List.getElem?_map, hp]
                rfl
              obtain ⟨h, hcap, rfl⟩ : ∃ h hcap, q = .slice (some ⟨h, 0, none⟩) (n + 70) hcap := by
                rcases own_shape hqr with ⟨_, e⟩ | e
                · omega
                · exact e
              have c2 : wr.cell? ⟨gl, k3, none⟩ = some (.slice (some ⟨h, 0, none⟩) (n + 70) hcap) := by
                rw [hlr.cellAt k3 (by omega), hq]
              have hcl : n + 70 ≤ hcap := by
                obtain ⟨ad, c, e, _, hle⟩ := own_row8c hqr
                simp only [Value.slice.injEq] at e
                omega
              have HP : Hid (∀ t, t < n → wr.cell? ⟨g, t, none⟩ = some (.int .u8 (mk k3))) := fun t ht => by
                rw [cell_of_row wr g t _ 5 (0, 0) hbr]
                simp [cells8, ht]
              have HQ : Hid (∀ t, t < n → wr.cell? ⟨h, t, none⟩ = some (.int .u8 (mk k3))) := fun t ht => by
                rw [hqr.cellAt t (by omega)]
                simp [cells8, ht, List.getElem?_append_left]
              have HR : Hid (Row8 wr (some ⟨h, n, none⟩) 70 (hcap - n) (List.replicate 70 (tm k3))) := by
                refine ⟨by simp, .inr ⟨_, rfl, fun j u hu => ?_⟩⟩
                have hj70 : j < 70 := by
                  have := (List.getElem?_eq_some_iff.1 hu).1
                  simpa using this
                have hadd : (⟨h, n, none⟩ : Addr).add j = ⟨h, n + j, none⟩ := by unfold Addr.add; split <;> simp_all
                rw [hadd, hqr.cellAt (n + j) (by omega), ← hu]
                simp [cells8, List.getElem?_append_right]
              have hw8 : IntKind.u8.wrap (k3 : Int) = mk k3 := by simp [IntKind.wrap, IntKind.signed, IntKind.bits, mk]
              clear hOr hlr hqr hbr
              go_wp2_with fail
              go_loop [58] (fun i => ∃ t : Nat, t ≤ n ∧ i = .int .i64 t) (fun i => n - (intOf i).toNat)
              case atStart => exact ⟨0, Nat.zero_le _, rfl⟩
              case round =>
                obtain ⟨t, ht, rfl⟩ := hrel
                by_cases hltt : t < n
                · have e1 := HP.out t hltt
                  have e2 := HQ.out t hltt
                  go_wp2
                  go_round
                  case rel => exact ⟨t + 1, by omega, by go_num⟩
                  case measure => simp [intOf]; omega
                · obtain rfl : t = n := by omega
                  have hD : Chg (fun _ => False) wr wr.drew := ⟨rfl, rfl, rfl, Nat.le_refl _, fun _ _ _ => rfl⟩
                  have c3 := conv8_here HR.out
                  clear HP HQ
                  have hle : (t : Int) ≤ (t : Int) + 70 := by omega
                  have hne : ¬ hcap = t := by omega
                  go_wp2_with fail
                  refine wp_region_noPanic ?_
                  refine wp_region_held_drew (S := fun w' => w'.cell? ⟨ga, k3, none⟩ = some (.slice (some ⟨g, 0, none⟩) t t) ∧ w'.cell? ⟨gl, k3, none⟩ = some (.slice (some ⟨h, 0, none⟩) (t + 70) hcap) ∧ (convert 24 9 (.slice (some ⟨h, t, none⟩) 70 (hcap - t))).run Tryd.prog w' = .ok (.string (strOfNums (List.replicate 70 (tm k3)))) w') (by kernel_rfl) ⟨c1, c2, conv8_here (row8_chg HR.out hD)⟩ (fun hHeld => ?_)
                  refine take_at (i := 0) (d := some 84) (v := ?_) rfl rfl (by kernel_rfl) (by kernel_rfl) (by kernel_rfl) (fun _ _ _ h => h) (Or.inl ⟨by rfl, ?_⟩) (by assumption) ?_
                  rotate_left
                  · intro w hSw; obtain ⟨y1, y2, y3⟩ := hSw; first | (go_simp; done) | (go_simp; with_reducible rfl)
                  simp only [Act.put, List.setIfInBounds_toArray, List.set_cons_zero, List.set_cons_succ]
                  refine take_at (i := 1) (d := some 85) (v := ?_) rfl rfl (by kernel_rfl) (by kernel_rfl) (by kernel_rfl) (fun _ _ _ h => h) (Or.inl ⟨by rfl, ?_⟩) (by assumption) ?_
                  rotate_left
                  · intro w hSw; obtain ⟨y1, y2, y3⟩ := hSw; first | (go_simp; done) | (go_simp; with_reducible rfl)
                  simp only [Act.put, List.setIfInBounds_toArray, List.set_cons_zero, List.set_cons_succ]
                  refine take_at (i := 2) (d := some 86) (v := ?_) rfl rfl (by kernel_rfl) (by kernel_rfl) (by kernel_rfl) (fun _ _ _ h => h) (Or.inl ⟨by rfl, ?_⟩) (by assumption) ?_
                  rotate_left
                  · intro w hSw; obtain ⟨y1, y2, y3⟩ := hSw; first | (go_simp; done) | (go_simp; with_reducible rfl)
                  simp only [Act.put, List.setIfInBounds_toArray, List.set_cons_zero, List.set_cons_succ]
                  refine take_at (i := 3) (d := some 87) (v := ?_) rfl rfl (by kernel_rfl) (by kernel_rfl) (by kernel_rfl) (fun _ _ _ h => h) (Or.inl ⟨by rfl, ?_⟩) (by assumption) ?_
                  rotate_left
                  · intro w hSw; obtain ⟨y1, y2, y3⟩ := hSw; first | (go_simp; done) | (go_simp; with_reducible rfl)
                  simp only [Act.put, List.setIfInBounds_toArray, List.set_cons_zero, List.set_cons_succ]
                  refine take_at (i := 4) (d := some 88) (v := ?_) rfl rfl (by kernel_rfl) (by kernel_rfl) (by kernel_rfl) (fun _ _ _ h => h) (Or.inl ⟨by rfl, ?_⟩) (by assumption) ?_
                  rotate_left
                  · intro w hSw; obtain ⟨y1, y2, y3⟩ := hSw; first | (go_simp; done) | (go_simp; with_reducible rfl)
                  simp only [Act.put, List.setIfInBounds_toArray, List.set_cons_zero, List.set_cons_succ]
                  refine take_at (i := 5) (d := some 89) (v := ?_) rfl rfl (by kernel_rfl) (by kernel_rfl) (by kernel_rfl) (fun _ _ _ h => h) (Or.inl ⟨by rfl, ?_⟩) (by assumption) ?_
                  rotate_left
                  · intro w hSw; obtain ⟨y1, y2, y3⟩ := hSw; first | (go_simp; done) | (go_simp; with_reducible rfl)
                  simp only [Act.put, List.setIfInBounds_toArray, List.set_cons_zero, List.set_cons_succ]
                  refine take_at (i := 6) (d := some 90) (v := ?_) rfl rfl (by kernel_rfl) (by kernel_rfl) (by kernel_rfl) (fun _ _ _ h => h) (Or.inl ⟨by rfl, ?_⟩) (by assumption) ?_
                  rotate_left
                  · intro w hSw; obtain ⟨y1, y2, y3⟩ := hSw; first | (go_simp; done) | (go_simp; with_reducible rfl)
                  simp only [Act.put, List.setIfInBounds_toArray, List.set_cons_zero, List.set_cons_succ]
                  refine take_at (i := 7) (d := some 91) (v := ?_) rfl rfl (by kernel_rfl) (by kernel_rfl) (by kernel_rfl) (fun _ _ _ h => h) (Or.inl ⟨by rfl, ?_⟩) (by assumption) ?_
                  rotate_left
                  · intro w hSw; obtain ⟨y1, y2, y3⟩ := hSw; first | (go_simp; done) | (go_simp; with_reducible rfl)
                  simp only [Act.put, List.setIfInBounds_toArray, List.set_cons_zero, List.set_cons_succ]
                  refine take_at (i := 8) (d := some 92) (v := ?_) rfl rfl (by kernel_rfl) (by kernel_rfl) (by kernel_rfl) (fun _ _ _ h => h) (Or.inl ⟨by rfl, ?_⟩) (by assumption) ?_
                  rotate_left
                  · intro w hSw; obtain ⟨y1, y2, y3⟩ := hSw; first | (go_simp; done) | (go_simp; with_reducible rfl)
                  simp only [Act.put, List.setIfInBounds_toArray, List.set_cons_zero, List.set_cons_succ]
                  refine take_at (i := 9) (d := some 93) (v := ?_) rfl rfl (by kernel_rfl) (by kernel_rfl) (by kernel_rfl) (fun _ _ _ h => h) (Or.inl ⟨by rfl, ?_⟩) (by assumption) ?_
                  rotate_left
                  · intro w hSw; obtain ⟨y1, y2, y3⟩ := hSw; first | (go_simp; done) | (go_simp; with_reducible rfl)
                  simp only [Act.put, List.setIfInBounds_toArray, List.set_cons_zero, List.set_cons_succ]
                  refine take_at (i := 10) (d := some 94) (v := ?_) rfl rfl (by kernel_rfl) (by kernel_rfl) (by kernel_rfl) (fun _ _ _ h => h) (Or.inl ⟨by rfl, ?_⟩) (by assumption) ?_
                  rotate_left
                  · intro w hSw; obtain ⟨y1, y2, y3⟩ := hSw; first | (go_simp; done) | (go_simp; with_reducible rfl)
                  simp only [Act.put, List.setIfInBounds_toArray, List.set_cons_zero, List.set_cons_succ]
                  refine take_at (i := 11) (d := some 95) (v := ?_) rfl rfl (by kernel_rfl) (by kernel_rfl) (by kernel_rfl) (fun _ _ _ h => h) (Or.inl ⟨by rfl, ?_⟩) (by assumption) ?_
                  rotate_left
                  · intro w hSw; obtain ⟨y1, y2, y3⟩ := hSw; first | (go_simp; done) | (go_simp; with_reducible rfl)
                  simp only [Act.put, List.setIfInBounds_toArray, List.set_cons_zero, List.set_cons_succ]
                  refine wpAnyH_ready (rs := [12]) (by kernel_rfl) (by simp) ?_
                  refine AllReadyH.cons (o := ⟨some 96, .call ⟨.value (.func 21), #[.tmp 95], #[3]⟩, _, _, _, _⟩) rfl (fun K hK => ?_) AllReadyH.nil
                  go_simp
                  go_at_call 21
                  refine (tail_any k3 _ (by omega)).mono ?_
                  rintro e w4 ⟨tp, rfl, ht4, hc4⟩
                  obtain ⟨ta, tc, rfl, htr, -⟩ := own_row8c ht4
                  have hc34 : Chg (fun _ => False) wr w4 := hD.trans hc4 (fun _ f => f.elim)
                  have d1 : w4.cell? ⟨ga, k3, none⟩ = some (.slice (some ⟨g, 0, none⟩) t t) := (cell_new hc34 c1)
                  have d2 : w4.cell? ⟨gl, k3, none⟩ = some (.slice (some ⟨h, 0, none⟩) (t + 70) hcap) := (cell_new hc34 c2)
                  have d3 := conv8_here (row8_chg HR.out hc34)
                  have d4 := conv8_here htr
                  refine hK.out _ _ ⟨d1, d2, d3⟩ (fun hHeld2 => ?_)
                  clear hK K hHeld
                  refine wpAnyH_strong (T := (fun w' => (w'.cell? ⟨ga, k3, none⟩ = some (.slice (some ⟨g, 0, none⟩) t t) ∧ w'.cell? ⟨gl, k3, none⟩ = some (.slice (some ⟨h, 0, none⟩) (t + 70) hcap) ∧ (convert 24 9 (.slice (some ⟨h, t, none⟩) 70 (hcap - t))).run Tryd.prog w' = .ok (.string (strOfNums (List.replicate 70 (tm k3)))) w') ∧ (convert 24 9 (.slice ta 70 tc)).run Tryd.prog w' = .ok (.string (strOfNums (List.replicate 70 (tm k3)))) w')) (fun _ h => h.1) _ _ _ _ ?_
                  have hHeld3 := And.intro hHeld2 d4
                  have hHeld4 : (fun w' => (w'.cell? ⟨ga, k3, none⟩ = some (.slice (some ⟨g, 0, none⟩) t t) ∧ w'.cell? ⟨gl, k3, none⟩ = some (.slice (some ⟨h, 0, none⟩) (t + 70) hcap) ∧ (convert 24 9 (.slice (some ⟨h, t, none⟩) 70 (hcap - t))).run Tryd.prog w' = .ok (.string (strOfNums (List.replicate 70 (tm k3)))) w') ∧ (convert 24 9 (.slice ta 70 tc)).run Tryd.prog w' = .ok (.string (strOfNums (List.replicate 70 (tm k3)))) w') w4 := hHeld3
                  clear hHeld2 hHeld3 d1 d2 d3 d4 c1 c2 c3
                  (try simp only [Act.put, List.setIfInBounds_toArray, List.set_cons_zero, List.set_cons_succ])
                  refine take_at (i := 13) (d := some 97) (v := ?_) rfl rfl (by kernel_rfl) (by kernel_rfl) (by kernel_rfl) (fun _ _ _ h => h) (Or.inl ⟨by rfl, ?_⟩) (by assumption) ?_
                  rotate_left
                  · intro w hSw; obtain ⟨⟨y1, y2, y3⟩, y4⟩ := hSw; first | (go_simp; done) | (go_simp; with_reducible rfl)
                  simp only [Act.put, List.setIfInBounds_toArray, List.set_cons_zero, List.set_cons_succ]
                  refine take_at (i := 14) (d := some 98) (v := ?_) rfl rfl (by kernel_rfl) (by kernel_rfl) (by kernel_rfl) (fun _ _ _ h => h) (Or.inl ⟨by rfl, ?_⟩) (by assumption) ?_
                  rotate_left
                  · intro w hSw; obtain ⟨⟨y1, y2, y3⟩, y4⟩ := hSw; first | (go_simp; done) | (go_simp; with_reducible rfl)
                  simp only [Act.put, List.setIfInBounds_toArray, List.set_cons_zero, List.set_cons_succ]
                  refine wpAnyH_done (by kernel_rfl) ?_ _
                  refine NoPanic.normal ?_
                  clear hHeld4
                  have hcE := hc3.trans hc34 (fun _ f => f.elim)
                  go_wp2
                  go_roundw
                  case rel => exact ⟨k3 + 1, by omega, by go_num, hcE⟩
                  case measure => simp [intOf]; omega
            · obtain rfl : k3 = k2 := by omega
              have hCe := chg_then hCw hc3
              go_wp2
              go_ret
              exact ⟨rfl, hCe⟩

end Go.Proofs.YtkjjcdkobapedaaDoor
