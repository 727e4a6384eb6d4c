/- The program's heap in memory: Push; of no statement by itself. -/
import Derived.Test.YtoeimahlielklaaHf
namespace Go.Proofs.Ytoeimahlielklaa
open Go.RowKit
open Hp16
set_option linter.unusedVariables false
set_option linter.unusedSimpArgs false
theorem infoPp : (Try.prog.info? 47).map (fun i => (i.zero, i.size, i.bytes)) = some (some (.agg #[.int .i64 0, .int .i64 0]), 2, 16) := by kernel_rfl
def PuJ (W : World) (B L : Nat) (v : Value) (l : List Pr) (p : Pr) (q : Nat) (s t : Value) (w : World) : Prop :=
  (q ≤ 1 → Chg (fun _ => False) W w) ∧ (q = 1 → ∃ h, s = .slice (some ⟨h, 0, none⟩) 1 1 ∧ From w (some ⟨h, 0, none⟩) 1 1 2 (prcs [p])) ∧ (q = 2 → ∃ a9 d9, t = .slice a9 (L + 1) d9 ∧ w.ownsRow B 47 2 (.slice a9 (L + 1) d9) (L + 1) (prcs (l ++ [p])) ∧ Chg (fun z => v.ownBlock = some z) W w ∧ Moved W v t)
theorem blk_set1h {w : World} {a : Nat} {x y u : Value} {t : TypeId} (h : w.heap[a]? = some (.cells #[x, y] t (0, 0))) : (w.setCell ⟨a, 1, none⟩ u).heap[a]? = some (.cells #[x, u] t (0, 0)) := blk_set1 h
set_option maxHeartbeats 8000000 in
set_option maxRecDepth 100000 in
theorem push_any (B a : Nat) (v : Value) (l : List Pr) (x y : Int) (w : World) (h : Hl w B a chF v l) (ht : Tre l) (hB : B ≤ w.heap.size) (hn : l.length < 8796093022208) : Calls Try.prog 10 #[.pointer (some ⟨a, 0, none⟩), .agg #[.int .i64 x, .int .i64 y]] w fun e w' => e = .returned (.tuple #[]) ∧ ∃ v' l', Hl w' B a chF v' l' ∧ l'.Perm (l ++ [(x, y)]) ∧ Tre l' ∧ Chg (Foot a v) w w' ∧ Moved w v v' := by
  obtain ⟨iu, hiu, hu0, hu1, hu2⟩ := info_parts infoPp
  obtain ⟨ad, c, hv⟩ := formP h.own
  have HV : Hid (v = .slice ad l.length c) := hv
  have HH : Hid (Hl w B a chF v l ∧ Tre l) := ⟨h, ht⟩
  obtain ⟨L, hL⟩ : ∃ L, l.length = L := ⟨_, rfl⟩
  rw [hL] at hv HV hn
  have HL : Hid (l.length = L) := hL
  have HB : Hid (B ≤ w.heap.size) := hB
  have hLi : (L : Int) < 8796093022208 := by omega
  have cA := chg_one w (.cells #[.int .i64 x, .int .i64 y] 47)
  have hHA := h.new cA
  have k1 := cell1 hHA.blk
  rw [hv] at k1
  have m0 := cell0 (heap_alloc_last w (.cells #[.int .i64 x, .int .i64 y] 47))
  have m1 := cell1 (heap_alloc_last w (.cells #[.int .i64 x, .int .i64 y] 47))
  have HCA : Hid (Chg (fun _ => False) w (w.alloc (.cells #[.int .i64 x, .int .i64 y] 47))) := cA
  have HHA : Hid (Hl (w.alloc (.cells #[.int .i64 x, .int .i64 y] 47)) B a chF v l) := hHA
  have HBA : Hid (B ≤ (w.alloc (.cells #[.int .i64 x, .int .i64 y] 47)).heap.size) := Nat.le_trans hB cA.size
  clear h ht hv hL hB cA hHA
  go_enter Try.func10, Try.ntmps10
  go_upto_region 1 with fail
  generalize w.alloc (.cells #[.int .i64 x, .int .i64 y] 47) = W at *
  generalize w.heap.size = bx at *
  refine wp_region_phaseM (mk := fun u => #[_, _, _, _, u 4, u 5, u 6, u 7, u 8, u 9, u 10, u 11, u 12, u 13, _, _, _, _, _, _, _, _]) (G := lookG [(4, .pointer (some ⟨a, 0, none⟩)), (5, .pointer (some ⟨a, 0, none⟩)), (6, .pointer (some ⟨a, 0, none⟩)), (7, .pointer (some ⟨a, 1, none⟩)), (8, .slice ad L c), (9, .agg #[.int .i64 x, .int .i64 y]), (12, .pointer (some ⟨a, 0, none⟩)), (13, .pointer (some ⟨a, 1, none⟩))]) (J := fun q u ww => PuJ W B L v l (x, y) q (u 10) (u 11) ww) [6, 7] (fun i => if i = 4 then 1 else if i = 5 then 0 else 2) ([]) (fun _ => undef) rfl (by kernel_rfl) 10 _ rfl rfl (by kernel_rfl) (by kernel_rfl) (by kernel_rfl) (by decide) ?_ ?_ ?_ (by kernel_rfl) ?_ ?_
  · repeat (refine ⟨fun _ _ => rfl, ?_⟩)
    exact trivial
  · intro q u u2 ww h hj
    have e10 : u 10 = u2 10 := h 6 (by decide)
    have e11 : u 11 = u2 11 := h 7 (by decide)
    show PuJ _ _ _ _ _ _ _ _ _ _
    rw [← e10, ← e11]
    exact hj
  · exact ⟨fun _ => (Chg.refl _ W).drew, fun e => absurd e (by omega), fun e => absurd e (by omega)⟩
  · refine ⟨?_, ?_, ?_, ?_, ?_, ?_, ?_, ?_, ?_, ?_, trivial⟩
    · show StepRQ _ _ _ _ _ _ _ _ _ -- 4
      unfold StepRQ
      intro qn hq u w_ hj hd K hK
      clear hd
      go_simp
      exact hK.out (.pointer (some ⟨a, 0, none⟩)) rfl
    · show StepRQ _ _ _ _ _ _ _ _ _ -- 5
      unfold StepRQ
      intro qn hq u w_ hj hd K hK
      clear hd
      go_simp
      exact hK.out (.pointer (some ⟨a, 0, none⟩)) rfl
    · show StepRQ _ _ _ _ _ _ _ _ _ -- 6
      unfold StepRQ
      intro qn hq u w_ hj hd K hK
      have h5 : u 5 = .pointer (some ⟨a, 0, none⟩) := hd.get 1 (by kernel_rfl)
      clear hd
      simp only [h5] at hK
      go_simp
      exact hK.out (.pointer (some ⟨a, 0, none⟩)) rfl
    · show StepRQ _ _ _ _ _ _ _ _ _ -- 7
      unfold StepRQ
      intro qn hq u w_ hj hd K hK
      have h6 : u 6 = .pointer (some ⟨a, 0, none⟩) := hd.get 2 (by kernel_rfl)
      clear hd
      simp only [h6] at hK
      go_simp
      exact hK.out (.pointer (some ⟨a, 1, none⟩)) rfl
    · show StepRQ _ _ _ _ _ _ _ _ _ -- 8
      unfold StepRQ
      intro qn hq u w_ hj hd K hK
      have h7 : u 7 = .pointer (some ⟨a, 1, none⟩) := hd.get 3 (by kernel_rfl)
      clear hd
      simp only [h7] at hK
      have x0 := cell_chg k1 (hj.1 hq)
      go_simp
      exact hK.out _ rfl
    · show StepRQ _ _ _ _ _ _ _ _ _ -- 9
      unfold StepRQ
      intro qn hq u w_ hj hd K hK
      clear hd
      have x0 := cell_chg m0 (hj.1 (Nat.le_succ_of_le hq))
      have x1 := cell_chg m1 (hj.1 (Nat.le_succ_of_le hq))
      go_simp
      exact hK.out _ rfl
    · show StepWQ _ _ _ _ _ _ _ _ _ -- 10
      unfold StepWQ
      intro u w_ hj hd K hK
      have h9 : u 9 = .agg #[.int .i64 x, .int .i64 y] := hd.get 5 (by kernel_rfl)
      clear hd
      simp only [h9] at hK
      have c1 := chg_one w_ (.cells #[.int .i64 x, .int .i64 y] 47)
      have HN : Hid _ := hj
      clear hj
      go_simp
      exact hK.out _ _ ⟨fun _ => chg_then (HN.out.1 (by omega)) c1, fun _ => ⟨_, rfl, from_pr w_ (x, y) 47⟩, fun e => absurd e (by omega)⟩ trivial
    · show StepWQ _ _ _ _ _ _ _ _ _ -- 11
      unfold StepWQ
      intro u w_ hj hd K hK
      have h8 : u 8 = .slice ad L c := hd.get 4 (by kernel_rfl)
      clear hd
      obtain ⟨h1, h2, _⟩ := hj
      obtain ⟨bb, e10, hsrc⟩ := h2 rfl
      have hc := h1 (by omega)
      have hoo := (HHA.out.new hc).own
      rw [HL.out] at hoo
      have hv := HV.out
      refine step_append_moved (a := ⟨_, []⟩) (by rfl) (.tmp 8) (.tmp 10) 25 (by rfl) B 47 iu (.agg #[.int .i64 0, .int .i64 0]) 2 16 Try.underlying25 hiu hu0 hu1 hu2 rfl (by decide) v L (prcs l) (by rw [hv]; exact h8) (some ⟨bb, 0, none⟩) 1 1 (by exact e10) (prcs [(x, y)]) hoo hsrc (prcs_cell [(x, y)]) (by unfold maxLen; omega) (by omega) (Nat.le_trans HBA.out hc.size) ?_
      intro v2 w2 ho2 hg hm
      rw [← prcs_append] at ho2
      have c2 : Chg (fun z => v.ownBlock = some z) W w2 := (hc.mono (fun _ f => f.elim)).grown hg (fun j e => .inl e)
      obtain ⟨a9, d9, hv9⟩ := formP ho2
      subst hv9
      exact hK.out _ w2 ⟨fun e => absurd e (by omega), fun e => absurd e (by omega), fun _ => ⟨a9, d9, rfl, ho2, c2, fun g e => (hm g e).imp (fun k => k) (fun k => Nat.le_trans hc.size k)⟩⟩ trivial
    · show StepRQ _ _ _ _ _ _ _ _ _ -- 12
      unfold StepRQ
      intro qn hq u w_ hj hd K hK
      have h4 : u 4 = .pointer (some ⟨a, 0, none⟩) := hd.get 0 (by kernel_rfl)
      clear hd
      simp only [h4] at hK
      go_simp
      exact hK.out (.pointer (some ⟨a, 0, none⟩)) rfl
    · show StepRQ _ _ _ _ _ _ _ _ _ -- 13
      unfold StepRQ
      intro qn hq u w_ hj hd K hK
      have h12 : u 12 = .pointer (some ⟨a, 0, none⟩) := hd.get 8 (by kernel_rfl)
      clear hd
      simp only [h12] at hK
      go_simp
      exact hK.out (.pointer (some ⟨a, 1, none⟩)) rfl
  · intro u w7 hj hA K hK
    obtain ⟨_, _, h3⟩ := hj
    obtain ⟨a9, d9, e11, ho9, c9, m9⟩ := h3 rfl
    have h13 : u 13 = .pointer (some ⟨a, 1, none⟩) := hA.at 13 (by kernel_rfl)
    have hne := HHA.out.ne
    have b9 := blk_keep HHA.out.blk c9 (fun f => hne f)
    have k9 := cell1 b9
    have f9 := free1 b9
    have bS : (w7.setCell ⟨a, 1, none⟩ (.slice a9 (L + 1) d9)).heap[a]? = some (.cells #[chF, .slice a9 (L + 1) d9] 29 (0, 0)) := blk_set1 b9
    have cS : Chg (fun z => z = a) w7 (w7.setCell ⟨a, 1, none⟩ (.slice a9 (L + 1) d9)) := Chg.setCell (S := fun z => z = a) (Chg.refl _ w7) (p := ⟨a, 1, none⟩) (.inl rfl) _
    have hll : (l ++ [(x, y)]).length = L + 1 := by rw [List.length_append, HL.out]; rfl
    have HE : Hid (Hl (w7.setCell ⟨a, 1, none⟩ (.slice a9 (L + 1) d9)) B a chF (.slice a9 (L + 1) d9) (l ++ [(x, y)])) := by
      refine ⟨HHA.out.ha, bS, ?_⟩
      rw [hll]
      refine owns_keep ho9 cS (fun g e f => ?_)
      rw [f] at e
      obtain ⟨cur, hcur⟩ := owns_blk ho9 e
      exact ty_ne hcur b9 (by decide)
    have HC : Hid (Chg (Foot a v) w (w7.setCell ⟨a, 1, none⟩ (.slice a9 (L + 1) d9))) := ((HCA.out.mono (fun z f => f.elim)).trans c9 (fun z f => .inl (.inr f))).trans cS (fun z f => .inl (.inl f))
    rw [e11] at m9
    have HM : Hid (Moved w v (.slice a9 (L + 1) d9)) := fun g e => by
      rcases m9 g e with k | k
      · exact .inl k
      · exact .inr (Nat.le_trans HCA.out.size k)
    clear h3 ho9 c9 m9 hA b9 bS cS hne
    simp only [e11, h13] at hK ⊢
    go_simp
    refine hK.out _ _ ?_
    clear hK k9 f9 h13 e11
    generalize w7.setCell ⟨a, 1, none⟩ (.slice a9 (L + 1) d9) = W2 at *
    have k2 := cell1 HE.out.blk
    obtain ⟨g, hg9⟩ : ∃ g, a9 = some ⟨g, 0, none⟩ := by
      rcases HE.out.own.2 with ⟨e0, e1⟩ | ⟨g, cap, cur, e0, _⟩
      · rw [hll] at e1; omega
      · simp only [Value.slice.injEq] at e0; exact ⟨g, e0.1⟩
    subst hg9
    have HX : Hid _ := rise_any B a L g (L + 1) d9 (l ++ [(x, y)]) W2 HE.out hll (by omega) (by omega) (by have := up_start HH.out.2 (x, y); rw [HL.out] at this; exact this)
    have hnn : (((L + 1 : Nat) : Int) - 1) = (L : Int) := by omega
    clear hll
    go_wp2_with fail
    refine Calls.mono HX.out ?_
    rintro z w9 ⟨rfl, l', h1, h2, h3, h4⟩
    have HY : Hid (Hl w9 B a chF (.slice (some ⟨g, 0, none⟩) (L + 1) d9) l' ∧ l'.Perm (l ++ [(x, y)]) ∧ Tre l' ∧ Chg (fun z => z = g) W2 w9) := ⟨h1, h2, h3, h4⟩
    clear h1 h2 h3 h4 HX
    go_wp2
    go_end0
    refine ⟨rfl, _, l', HY.out.1, HY.out.2.1, HY.out.2.2.1, HC.out.trans HY.out.2.2.2 (fun z f => ?_), HM.out⟩
    subst f
    rcases HM.out z rfl with k | k
    · exact .inl (.inr k)
    · exact .inr k
set_option maxHeartbeats 4000000 in
theorem hpush_any (B a : Nat) (ff v : Value) (l : List Pr) (x y : Int) (w : World) (h : Hl w B a ff v l) (ht : Tre l) (hB : B ≤ w.heap.size) (hn : l.length < 8796093022208) : Calls Try.prog 5 #[.pointer (some ⟨a, 0, none⟩), .int .i64 x, .int .i64 y] w fun e w' => e = .returned (.tuple #[]) ∧ ∃ v' l', Hl w' B a chF v' l' ∧ l'.Perm (l ++ [(x, y)]) ∧ Tre l' ∧ Chg (Foot a v) w w' ∧ Moved w v v' := by
  have k0 := cell0 h.blk
  have f0 := free0 h.blk
  have cS : Chg (fun z => z = a) w (w.setCell ⟨a, 0, none⟩ chF) := Chg.setCell (S := fun z => z = a) (Chg.refl _ w) (p := ⟨a, 0, none⟩) (.inl rfl) _
  have hS : Hl (w.setCell ⟨a, 0, none⟩ chF) B a chF v l := ⟨h.ha, blk_set0 h.blk, owns_keep h.own cS (fun g e f => h.ne (by rw [← f]; exact e))⟩
  have HX : Hid _ := push_any B a v l x y _ hS ht (Nat.le_trans hB cS.size) hn
  have HC : Hid (Chg (fun z => z = a) w (w.setCell ⟨a, 0, none⟩ chF)) := cS
  clear cS hS h ht hB hn
  unfold chF at HX HC ⊢
  go_enter Try.func5, Try.ntmps5
  go_wp2_with fail
  refine Calls.mono HX.out ?_
  rintro z w9 ⟨rfl, v', l', h1, h2, h3, h4, h5⟩
  have HY : Hid (∃ v' l', Hl w9 B a (.func (.func 9) #[] #[]) v' l' ∧ l'.Perm (l ++ [(x, y)]) ∧ Tre l' ∧ Chg (Foot a v) w w9 ∧ Moved w v v') := ⟨v', l', h1, h2, h3, (HC.out.mono (fun z f => .inl (.inl f))).trans h4 (fun z f => .inl f), fun g e => (h5 g e).imp (fun k => k) (fun k => Nat.le_trans HC.out.size k)⟩
  clear h1 h2 h3 h4 h5 HX HC
  go_wp2
  go_end0
  exact ⟨rfl, HY.out⟩
end Go.Proofs.Ytoeimahlielklaa
