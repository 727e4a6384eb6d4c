/- The document's heap: its Pop; of no statement by itself. -/
import Derived.Test.YtoeimahlielklaaHa
import Derived.Test.YtoeimahlielklaaCt
import Derived.Deep.DeepCutAuto
namespace Go.Proofs.Ytoeimahlielklaa
open Go.RowKit
open Hp16
set_option linter.unusedVariables false
set_option linter.unusedSimpArgs false

/-- Less, as the code asks. -/
def ltb (a b : Pr) : Bool := decide (a.1 < b.1) || (a.1 == b.1) && decide (a.2 < b.2)
theorem ltb_le {a b : Pr} (h : ltb a b = true) : le a b := by
  unfold ltb at h; unfold le
  simp at h
  omega
theorem ltb_not {a b : Pr} (h : ltb a b = false) : le b a := by
  unfold ltb at h; unfold le
  simp at h
  omega
/-- A list of pairs of one's own, read by number. -/
theorem pr_cells {w : World} {B : Nat} {t : TypeId} {ad : Option Addr} {n c : Nat} {l : List Pr} (h : w.ownsRow B t 2 (.slice ad n c) n (prcs l)) (k : Nat) (p : Pr) (hk : l[k]? = some p) : ∃ g, ad = some ⟨g, 0, none⟩ ∧ w.cell? ⟨g, k * 2, none⟩ = some (.int .i64 p.1) ∧ w.cell? ⟨g, k * 2 + 1, none⟩ = some (.int .i64 p.2) := by
  obtain ⟨h1, h2⟩ := prcs_at l k p hk
  rcases h.2 with ⟨e0, e1⟩ | ⟨g, cap, cur, e0, _⟩
  · have := h.1
    have h3 := (List.getElem?_eq_some_iff.1 h1).1
    omega
  · simp only [Value.slice.injEq, true_and] at e0
    obtain ⟨rfl, rfl⟩ := e0
    have e1 := h.cells (g := g) rfl _ _ h1
    have e2 := h.cells (g := g) rfl _ _ h2
    rw [addk, Nat.zero_add] at e1 e2
    exact ⟨g, rfl, e1, e2⟩
theorem elemPr : Try.prog.elem 38 = 53 := by kernel_rfl
theorem sizePr : (sizeOf 53).run Try.prog = fun w => .ok 2 w := by kernel_rfl
theorem undPr : Try.prog.underlying 38 = some (.slice (Try.prog.elem 38)) := by kernel_rfl
theorem rhpop_none (B r : Nat) (v : Value) (w : World) (h : Rh w B r v []) : Calls Try.prog 13 #[.pointer (some ⟨r, 0, none⟩)] w fun e w' => e = .returned (.tuple #[.int .i64 0, .int .i64 0, .bool false]) ∧ w' = w := by
  obtain ⟨ad, c, hv⟩ := formP h.own
  subst hv
  have k0 := cell00 h.blk
  simp only [List.length_nil] at k0
  clear h
  go_enter Try.func13, Try.ntmps13
  go_wp2
  go_ret3
  exact ⟨rfl, rfl⟩
set_option maxHeartbeats 4000000 in
set_option maxRecDepth 100000 in
theorem rhpop_any (B r : Nat) (v : Value) (l : List Pr) (x : Pr) (t : List Pr) (w : World) (h : Rh w B r v l) (hp : l.Perm (x :: t)) (hs : Srt (x :: t)) (hB : B ≤ w.heap.size) (hl : l.length < 8796093022208) : Calls Try.prog 13 #[.pointer (some ⟨r, 0, none⟩)] w fun e w' => e = .returned (.tuple #[.int .i64 x.1, .int .i64 x.2, .bool true]) ∧ ∃ v' l', Rh w' B r v' l' ∧ l'.Perm t ∧ Chg (Foot r v) w w' ∧ Moved w v v' := by
  obtain ⟨iu, hiu, hu0, hu1, hu2⟩ := info_parts infoPr
  obtain ⟨ad, c, hv⟩ := formP h.own
  have hL0 : 0 < l.length := by rw [hp.length_eq]; simp
  have HH : Hid (Rh w B r v l) := h
  have HP : Hid (l.Perm (x :: t) ∧ Srt (x :: t)) := ⟨hp, hs⟩
  have HO : Hid (w.ownsRow B 53 2 (.slice ad l.length c) l.length (prcs l)) := hv ▸ h.own
  have HB : Hid (B ≤ w.heap.size) := hB
  have HV : Hid (v = .slice ad l.length c) := hv
  have k0 := cell00 h.blk
  rw [hv] at k0
  have hLi : (l.length : Int) < 8796093022208 := by omega
  have hLc : l.length ≤ c := by
    rcases HO.out.2 with ⟨e0, e1⟩ | ⟨g, cap, cur, e0, _, _, h9, _⟩
    · omega
    · simp only [Value.slice.injEq, true_and] at e0
      omega
  obtain ⟨L, hLL⟩ : ∃ L, l.length = L := ⟨_, rfl⟩
  rw [hLL] at HO HV k0 hLi hLc hL0 hl
  have HL : Hid (l.length = L) := hLL
  clear h hv hp hs hB hLL
  go_enter Try.func13, Try.ntmps13
  have hd0 : ((L : Int) == 0) = false := by simp; omega
  go_wp2_with fail
  go_loopw [5, 6] (fun v5 v6 wr => ∃ a i q : Nat, i ≤ L ∧ a < L ∧ v5 = .int .i64 (a : Int) ∧ v6 = .int .i64 (i : Int) ∧ Hid (∀ p, l[a]? = some p → ∀ j z, j < i → l[j]? = some z → le p z) ∧ wr = w.drewN q) (fun _ v6 _ => L - (intOf v6).toNat)
  case atStart => exact ⟨0, 0, 0, by omega, hL0, rfl, rfl, (fun _ _ j _ hj => by omega), rfl⟩
  case round =>
    obtain ⟨a, i, q, hi, ha, rfl, rfl, HJ, rfl⟩ := hrel
    have hii : (i : Int) < 8796093022209 := by omega
    have hai : (a : Int) < 8796093022209 := by omega
    obtain ⟨pa, hpa⟩ : ∃ p, l[a]? = some p := ⟨_, List.getElem?_eq_getElem (by rw [HL.out]; exact ha)⟩
    obtain ⟨g, eg, ca1, ca2⟩ := pr_cells HO.out a pa hpa
    subst eg
    have HPA : Hid (l[a]? = some pa) := hpa
    clear hpa
    by_cases hin : i < L
    · have hd1 : decide (i < L) = true := decide_eq_true hin
      obtain ⟨pi, hpi⟩ : ∃ p, l[i]? = some p := ⟨_, List.getElem?_eq_getElem (by rw [HL.out]; exact hin)⟩
      obtain ⟨g2, eg2, ci1, ci2⟩ := pr_cells HO.out i pi hpi
      have HPI : Hid (l[i]? = some pi) := hpi
      simp only [Option.some.injEq, Addr.mk.injEq, and_true] at eg2
      subst eg2
      clear hpi
      obtain ⟨pa1, pa2⟩ := pa
      obtain ⟨pi1, pi2⟩ := pi
      simp only at ca1 ca2 ci1 ci2
      by_cases h1 : pi1 < pa1
      · have e1 : decide (pi1 < pa1) = true := decide_eq_true h1
        have HJ2 : Hid (∀ p, l[i]? = some p → ∀ j z, j < i + 1 → l[j]? = some z → le p z) := fun p hp j z hj hz => by
          rw [HPI.out] at hp
          injection hp with hp
          subst hp
          by_cases ej : j = i
          · subst ej; rw [HPI.out] at hz; injection hz with hz; subst hz; exact le_refl _
          · exact le_trans (ltb_le (a := (pi1, pi2)) (b := (pa1, pa2)) (by unfold ltb; simp [e1])) (HJ.out _ HPA.out j z (by omega) hz)
        clear HJ h1
        go_wp2_with fail
        go_quiet (fail)
        go_wp2_with fail
        exact ⟨⟨i, i + 1, _, by omega, by omega, rfl, by go_num, HJ2.out, rfl⟩, by simp [intOf]; omega⟩
      · have e1 : decide (pi1 < pa1) = false := decide_eq_false h1
        by_cases h2 : pi1 = pa1
        · have e2 : (pi1 == pa1) = true := by simp [h2]
          by_cases h3 : pi2 < pa2
          · have e3 : decide (pi2 < pa2) = true := decide_eq_true h3
            have HJ2 : Hid (∀ p, l[i]? = some p → ∀ j z, j < i + 1 → l[j]? = some z → le p z) := fun p hp j z hj hz => by
              rw [HPI.out] at hp
              injection hp with hp
              subst hp
              by_cases ej : j = i
              · subst ej; rw [HPI.out] at hz; injection hz with hz; subst hz; exact le_refl _
              · exact le_trans (ltb_le (a := (pi1, pi2)) (b := (pa1, pa2)) (by unfold ltb; simp [e1, e2, e3])) (HJ.out _ HPA.out j z (by omega) hz)
            clear HJ h1 h2 h3
            go_wp2_with fail
            go_quiet (fail)
            go_wp2_with fail
            exact ⟨⟨i, i + 1, _, by omega, by omega, rfl, by go_num, HJ2.out, rfl⟩, by simp [intOf]; omega⟩
          · have e3 : decide (pi2 < pa2) = false := decide_eq_false h3
            have HJ2 : Hid (∀ p, l[a]? = some p → ∀ j z, j < i + 1 → l[j]? = some z → le p z) := fun p hp j z hj hz => by
              by_cases ej : j = i
              · subst ej; rw [HPI.out] at hz; injection hz with hz; subst hz
                rw [HPA.out] at hp; injection hp with hp; subst hp
                exact ltb_not (by unfold ltb; simp [e1, e3])
              · exact HJ.out _ hp j z (by omega) hz
            clear HJ h1 h2 h3
            go_wp2_with fail
            go_quiet (fail)
            go_wp2_with fail
            exact ⟨⟨a, i + 1, _, by omega, by omega, rfl, by go_num, HJ2.out, rfl⟩, by simp [intOf]; omega⟩
        · have e2 : (pi1 == pa1) = false := by simp [h2]
          have HJ2 : Hid (∀ p, l[a]? = some p → ∀ j z, j < i + 1 → l[j]? = some z → le p z) := fun p hp j z hj hz => by
            by_cases ej : j = i
            · subst ej; rw [HPI.out] at hz; injection hz with hz; subst hz
              rw [HPA.out] at hp; injection hp with hp; subst hp
              exact ltb_not (by unfold ltb; simp [e1, e2])
            · exact HJ.out _ hp j z (by omega) hz
          clear HJ h1 h2
          go_wp2_with fail
          go_quiet (fail)
          go_wp2_with fail
          exact ⟨⟨a, i + 1, _, by omega, by omega, rfl, by go_num, HJ2.out, rfl⟩, by simp [intOf]; omega⟩
    · have hd1 : decide (i < L) = false := decide_eq_false hin
      obtain rfl : L = i := by omega
      have HT : Hid (pa = x ∧ (l.take a ++ l.drop (a + 1)).Perm t) := take_least HP.out.2 HP.out.1 a pa HPA.out (fun z hz => by
        obtain ⟨j, hj, e⟩ := List.getElem_of_mem hz
        exact HJ.out _ HPA.out j z (by rw [← HL.out]; exact hj) (by rw [List.getElem?_eq_getElem hj, e]))
      have hcut1 : ∀ ww, (Instr.sliceAt 38 (.slice (some ⟨g, 0, none⟩) L c) none (some (.int .i64 (a : Int))) none).run Try.prog ww = .ok (.slice (some ⟨g, 0, none⟩) a c) ww := fun ww => run_cutZ_hi undPr elemPr sizePr _ L c a ww (by omega)
      obtain ⟨ad2, had2⟩ : ∃ z, cutZ (some ⟨g, 0, none⟩) c (a + 1) 2 = z := ⟨_, rfl⟩
      have hcut2 : ∀ ww, (Instr.sliceAt 38 (.slice (some ⟨g, 0, none⟩) L c) (some (.int .i64 ((a : Int) + 1))) none none).run Try.prog ww = .ok (.slice ad2 (L - (a + 1)) (c - (a + 1))) ww := fun ww => by
        have := run_cutZ_lo undPr elemPr sizePr (some ⟨g, 0, none⟩) L c (a + 1) ww (by omega)
        rw [had2] at this
        exact this
      have hW := HH.out.new (chg_drewN w q)
      have hOW := owns_keep HO.out (chg_drewN w q) (fun _ _ f => f)
      have hk1 := cell_chg k0 (chg_drewN w q)
      have hc1 := cell_chg ca1 (chg_drewN w q)
      have hc2 := cell_chg ca2 (chg_drewN w q)
      have HCW : Hid (Chg (fun _ => False) w (w.drewN q)) := chg_drewN w q
      have HCU : Hid (cutZ (some ⟨g, 0, none⟩) c (a + 1) 2 = ad2) := had2
      clear HJ had2 k0 ca1 ca2 HO
      generalize w.drewN q = W at *
      obtain ⟨p1, p2⟩ := pa
      simp only at hc1 hc2
      have cA := chg_one W (.cells #[.int .i64 p1, .int .i64 p2] 53)
      have hOA := owns_keep hOW cA (fun _ _ f => f)
      have HOA : Hid ((W.alloc (.cells #[.int .i64 p1, .int .i64 p2] 53)).ownsRow B 53 2 (.slice (some ⟨g, 0, none⟩) L c) L (prcs l)) := hOA
      have HRA : Hid (Rh (W.alloc (.cells #[.int .i64 p1, .int .i64 p2] 53)) B r v l) := hW.new cA
      have HCA : Hid (Chg (fun _ => False) w (W.alloc (.cells #[.int .i64 p1, .int .i64 p2] 53))) := chg_then HCW.out cA
      have HPB : Hid ((W.alloc (.cells #[.int .i64 p1, .int .i64 p2] 53)).heap[W.heap.size]? = some (.cells #[.int .i64 p1, .int .i64 p2] 53 (0, 0))) := heap_alloc_last _ _
      have hkA := cell_chg hk1 cA
      clear hW hOW cA hOA
      go_upto_region 10 with fail
      generalize W.alloc (.cells #[.int .i64 p1, .int .i64 p2] 53) = W1 at *
      generalize W.heap.size = pb at *
      have hnil := World.ownsRow_nil W1 W1.heap.size 53 2
      have hsrc := from_front HOA.out (k := a) (by omega)
      have hone : ∀ u ∈ (prcs l).take (a * 2), u.oneCell' = true := fun u hu => prcs_cell l u (List.mem_of_mem_take hu)
      clear hk1 hc1 hc2
      go_wp2_with (at_builtin; refine wpList_append_moved rfl _ _ 38 rfl W1.heap.size 53 iu (.agg #[.int .i64 0, .int .i64 0]) 2 16 Try.underlying38 hiu hu0 hu1 hu2 rfl (by decide) _ 0 [] rfl (some ⟨g, 0, none⟩) a c rfl ((prcs l).take (a * 2)) hnil hsrc hone (by unfold maxLen; omega) (by omega) (Nat.le_refl _) ?_)
      intro v2 w2 ho2 hg2 hm2
      obtain ⟨a2, d2, hv2⟩ := formP ho2
      subst hv2
      have c2 : Chg (fun _ => False) W1 w2 := (Chg.refl _ W1).grown hg2 (fun k e => by simp [Value.ownBlock] at e)
      have HO2 : Hid (w2.ownsRow W1.heap.size 53 2 (.slice a2 a d2) a ((prcs l).take (a * 2))) := ho2
      have HC2 : Hid (Chg (fun _ => False) W1 w2) := c2
      have hk2 := cell_chg hkA c2
      have hOS := owns_keep HOA.out c2 (fun _ _ f => f)
      have hsrc2 := from_end hOS (k := a + 1) (by omega)
      rw [HCU.out] at hsrc2
      have hone2 : ∀ u ∈ (prcs l).drop ((a + 1) * 2), u.oneCell' = true := fun u hu => prcs_cell l u (List.mem_of_mem_drop hu)
      have hB2 : W1.heap.size ≤ w2.heap.size := c2.size
      clear ho2 hg2 hm2 c2 hnil hsrc hone hkA hcut1 hOS
      go_upto_region 12 with fail
      go_wp2_with (at_builtin; refine wpList_append_moved rfl _ _ 38 rfl W1.heap.size 53 iu (.agg #[.int .i64 0, .int .i64 0]) 2 16 Try.underlying38 hiu hu0 hu1 hu2 rfl (by decide) _ a ((prcs l).take (a * 2)) rfl ad2 (L - (a + 1)) (c - (a + 1)) rfl ((prcs l).drop ((a + 1) * 2)) HO2.out hsrc2 hone2 (by unfold maxLen; omega) (by omega) hB2 ?_)
      intro v3 w3 ho3 hg3 hm3
      obtain ⟨a3, d3, hv3⟩ := formP ho3
      subst hv3
      rw [prcs_take, prcs_drop, ← prcs_append] at ho3
      have c3 : Chg (fun _ => False) W1 w3 := HC2.out.grown hg3 (fun k e => .inr (HO2.out.lt k e).1)
      have b3 := blk_keep HRA.out.blk c3 (fun f => f)
      have k3 := cell00 b3
      have f3 := free00 b3
      have p3 := blk_keep HPB.out c3 (fun f => f)
      have cS : Chg (fun z => z = r) w3 (w3.setCell ⟨r, 0, none⟩ (.slice a3 (a + (L - (a + 1))) d3)) := Chg.setCell (S := fun z => z = r) (Chg.refl _ w3) (p := ⟨r, 0, none⟩) (.inl rfl) _
      have hpr : pb ≠ r := fun e => by
        rw [e] at p3
        exact ty_ne p3 b3 (by decide)
      have p4 := blk_keep p3 cS (fun f => hpr f)
      have q0 := cell0 p4
      have q1 := cell1 p4
      have HB3 : Hid ((w3.setCell ⟨r, 0, none⟩ (.slice a3 (a + (L - (a + 1))) d3)).heap[r]? = some (.cells #[.slice a3 (a + (L - (a + 1))) d3] 40 (0, 0))) := blk_set00 b3
      have HO3 : Hid ((w3.setCell ⟨r, 0, none⟩ (.slice a3 (a + (L - (a + 1))) d3)).ownsRow B 53 2 (.slice a3 (a + (L - (a + 1))) d3) (l.take a ++ l.drop (a + 1)).length (prcs (l.take a ++ l.drop (a + 1)))) := by
        have e : (l.take a ++ l.drop (a + 1)).length = a + (L - (a + 1)) := by
          have := HL.out
          simp
          omega
        rw [e]
        refine owns_keep (owns_base ho3 (Nat.le_trans HB.out HCA.out.size)) cS (fun g e f => ?_)
        rw [f] at e
        obtain ⟨cur, hcur⟩ := owns_blk ho3 e
        exact ty_ne hcur b3 (by decide)
      have HC3 : Hid (Chg (Foot r v) w (w3.setCell ⟨r, 0, none⟩ (.slice a3 (a + (L - (a + 1))) d3))) := ((chg_then HCA.out c3).mono (fun z f => f.elim)).trans cS (fun z f => .inl (.inl f))
      have HM3 : Hid (Moved w v (.slice a3 (a + (L - (a + 1))) d3)) := fun g e => .inr (Nat.le_trans HCA.out.size (ho3.lt g e).1)
      clear ho3 hg3 hm3 c3 b3 p3 p4 cS hsrc2 hone2 hcut2 hk2
      go_upto_region 13 with fail
      go_upto_region 14 with fail
      go_quiet (fail)
      go_wp2
      go_ret3
      refine ⟨by rw [← HT.out.1]; rfl, _, _, ⟨HH.out.hr, blk_keep HB3.out (chg_drewN _ nq) (fun f => f), owns_keep HO3.out (chg_drewN _ nq) (fun _ _ f => f)⟩, HT.out.2, HC3.out.trans (chg_drewN _ nq) (fun _ f => f.elim), HM3.out⟩
end Go.Proofs.Ytoeimahlielklaa
