/- The finder's candidates; of no statement by itself. -/
import Derived.Test.YtkdionoelbiidaaLf
import Derived.BigQuiet
namespace Go.Proofs.Ytkdionoelbiidaa
open Go.RowKit
set_option linter.unusedVariables false
set_option linter.unusedSimpArgs false

theorem cutLo_drop {lo : Nat} : ∀ {l : List Nat} {i : Nat}, (∀ j x, j < i → l[j]? = some x → x < lo) → (∀ x, l[i]? = some x → lo ≤ x) → cutLo lo l = l.drop i
  | [], i, _, _ => by simp [cutLo]
  | a :: l, 0, _, h2 => by
    have := h2 a (by simp)
    unfold cutLo
    rw [if_neg (by omega)]
    rfl
  | a :: l, i + 1, h1, h2 => by
    have := h1 0 a (by omega) (by simp)
    unfold cutLo
    rw [if_pos this, List.drop_succ_cons]
    exact cutLo_drop (fun j x hj hx => h1 (j + 1) x (by omega) (by simpa using hx)) (fun x hx => h2 x (by simpa using hx))
/-- A cut of the first. -/
theorem run_cut1 (g o m c : Nat) (w : World) (hm : 1 ≤ m) (hc : m ≤ c) : ∃ ad, (1 < m → ad = some (⟨g, o + 1, none⟩ : Addr)) ∧ ∀ w, (Instr.sliceAt 39 (.slice (some ⟨g, o, none⟩) m c) (some (.int .i64 1)) none none).run Try.prog w = .ok (.slice ad (m - 1) (c - 1)) w := by
  by_cases h1 : c = 1
  · refine ⟨some ⟨g, o, none⟩, fun h => by omega, fun w => ?_⟩
    rw [run_sliceAt_slice w 39 _ _ _ _ undI, run_slice_l w 39 _ m c undI .i64 1 (by omega) (by omega), elemI, sizeI]
    unfold sliced
    simp [Result.andThen, h1]
  · exact ⟨some ⟨g, o + 1, none⟩, fun _ => rfl, fun w => run_cutI g o m c 1 w hm (by omega)⟩
set_option maxHeartbeats 4000000 in
set_option maxRecDepth 100000 in
theorem cands_q (γ : Gh) (B a : Nat) (d : List Nat) (n p : Nat) (w : World) (h : Fi γ w B a d n p) (hp : p + 3 ≤ d.length) : Calls Try.prog 29 #[.pointer (some ⟨a, 0, none⟩)] w fun e w' => (∃ ad c, e = .returned (.slice ad (cutLo (p - n) (γ.T (klT d p))).length c) ∧ (cutLo (p - n) (γ.T (klT d p))).length ≤ c ∧
    (∀ γ' w'' p', gle γ γ' → Fi γ' w'' B a d n p' → ∀ j x : Nat, (cutLo (p - n) (γ.T (klT d p)))[j]? = some x → ∃ g o, ad = some ⟨g, o, none⟩ ∧ w''.cell? ⟨g, o + j, none⟩ = some (.int .i64 (x : Int)))) ∧ ∃ k, w' = w.drewN k := by
  have HF : Hid (Fi γ w B a d n p) := h
  obtain ⟨L, hL⟩ : ∃ L, d.length = L := ⟨_, rfl⟩
  have HDL : Hid (d.length = L) := hL
  obtain ⟨hn1, hn2, _, hLb⟩ := h.num
  have hbk := h.blk'
  rw [hL] at hp hLb hbk
  have hpi : (p : Int) ≤ 140737488355328 := by omega
  have hLi : (L : Int) ≤ 140737488355328 := by omega
  have hni : (n : Int) ≤ 4294967295 := by omega
  obtain ⟨gd, hda, hdc, hcl⟩ := h.own_form (by omega)
  have y0 := (hcl p).resolve_right (by omega)
  have y1 := (hcl (p + 1)).resolve_right (by omega)
  have y2 := (hcl (p + 2)).resolve_right (by omega)
  rw [hda] at hbk
  obtain ⟨K0, hK0⟩ : ∃ K0, keyN d p = K0 := ⟨_, rfl⟩
  have HQT : Hid (∀ k, Calls Try.prog 32 #[.pointer (some ⟨a, 0, none⟩), .int .i64 (p : Int)] (w.drewN k) fun e w'' => e = .returned (.int .u32 (K0 : Int)) ∧ ∃ m, w'' = w.drewN m) := fun k => by
    have := three_q a gd L γ.dc _ _ _ d p (w.drewN k) hbk hLb hp _ _ _ (dig_getD h.dig p) (dig_getD h.dig (p + 1)) (dig_getD h.dig (p + 2)) y0 y1 y2
    refine this.mono ?_
    rintro e w'' ⟨rfl, m, rfl⟩
    refine ⟨?_, _, World.drewN_drewN _ _ _⟩
    rw [← hK0]
    rfl
  obtain ⟨lv, hlv⟩ : ∃ lv, (γ.F (klT d p)).getD (.slice none 0 0) = lv := ⟨_, rfl⟩
  have hlk : ∀ k, (Instr.lookup 58 (.map (some γ.mp)) (.int .u32 (K0 : Int)) false).run Try.prog (w.drewN k) = .ok lv (w.drewN k) := fun k => by
    have := (h.keep (chg_drewN w k) (fun _ _ f => f)).look p
    rw [hK0, hlv] at this
    exact this
  obtain ⟨kc0, kc1, kc2, kc3, _⟩ := cells4 hbk
  -- the list
  obtain ⟨T, hT⟩ : ∃ T, γ.T (klT d p) = T := ⟨_, rfl⟩
  have hTlt : ∀ x ∈ T, x < p := by rw [← hT]; exact (h.tok (klT d p)).2.1
  have hT32 : T.length ≤ 32 := by rw [← hT]; exact (h.tok (klT d p)).2.2.1
  obtain ⟨m, hm⟩ : ∃ m, T.length = m := ⟨_, rfl⟩
  obtain ⟨ad0, c, hlvf, hmc, hrd⟩ : ∃ ad0 c, lv = .slice ad0 m c ∧ m ≤ c ∧ (∀ γ' w'' p', gle γ γ' → Fi γ' w'' B a d n p' → ∀ j x : Nat, T[j]? = some x → ∃ g o, ad0 = some ⟨g, o, none⟩ ∧ w''.cell? ⟨g, o + j, none⟩ = some (.int .i64 (x : Int))) := by
    rcases h.still (gle.refl γ) h (klT d p) with ⟨e1, e2⟩ | ⟨g, o, c, e1, e2, e3⟩
    · rw [hT] at e2
      refine ⟨none, 0, ?_, ?_, fun γ' w'' p' _ _ j x hx => ?_⟩
      · rw [← hlv, e1, ← hm, e2]; rfl
      · rw [← hm, e2]; exact Nat.le_refl _
      · rw [e2] at hx; simp at hx
    · rw [hT] at e1 e2 e3
      refine ⟨some ⟨g, o, none⟩, c, by rw [← hlv, e1, hm], by omega, fun γ' w'' p' hl hF j x hx => ?_⟩
      rcases h.still hl hF (klT d p) with ⟨f1, f2⟩ | ⟨g', o', c', f1, f2, f3⟩
      · rw [hT] at f2; rw [f2] at hx; simp at hx
      · rw [hT] at f1 f3
        rw [e1] at f1
        simp only [Value.slice.injEq, Option.some.injEq, Addr.mk.injEq, true_and, and_true] at f1
        refine ⟨g, o, rfl, ?_⟩
        rw [f1.1.1, f1.1.2]
        exact f3 j x hx
  rw [hT]
  subst hlvf
  have HRD : Hid _ := hrd
  have HTT : Hid (T.length = m ∧ (∀ x ∈ T, x < p)) := ⟨hm, hTlt⟩
  have hm32 : m ≤ 32 := by omega
  have hmi : (m : Int) ≤ 32 := by omega
  clear h hL hcl y0 y1 y2 hbk hrd hm hTlt hT32 hK0 hlv hT
  go_enter Try.func29, Try.ntmps29
  go_wp2_with fail
  go_quiet (first | (go_at_call 32; exact HQT.out _))
  clear HQT hlk kc3
  go_wp2_with fail
  go_loopw [3] (fun v wr => ∃ (i q : Nat) (ad : Option Addr), i ≤ m ∧ v = .slice ad (m - i) (c - i) ∧ wr = w.drewN q ∧ Hid ((∀ g o, ad0 = some ⟨g, o, none⟩ → i < m → ad = some ⟨g, o + i, none⟩) ∧ (∀ j x, j < i → T[j]? = some x → x < p - n))) (fun v _ => match v with | .slice _ k _ => k | _ => 0)
  case atStart => exact ⟨0, _, ad0, Nat.zero_le _, rfl, rfl, fun g o e _ => by rw [e]; rfl, fun j x hj => by omega⟩
  case round =>
    obtain ⟨i, q, ad, hi, rfl, rfl, HI⟩ := hrel
    obtain ⟨M, hM⟩ : ∃ M, m - i = M := ⟨_, rfl⟩
    obtain ⟨C, hC⟩ : ∃ C, c - i = C := ⟨_, rfl⟩
    rw [hM, hC]
    have HMC : Hid (m - i = M ∧ c - i = C) := ⟨hM, hC⟩
    have hMi : (M : Int) ≤ 32 := by omega
    have HRES : Hid ((∀ x, T[i]? = some x → p - n ≤ x) → (∃ ad' c', Ending.returned (.slice ad M C) = .returned (.slice ad' (cutLo (p - n) T).length c') ∧ (cutLo (p - n) T).length ≤ c' ∧ (∀ γ' w'' p', gle γ γ' → Fi γ' w'' B a d n p' → ∀ j x : Nat, (cutLo (p - n) T)[j]? = some x → ∃ g o, ad' = some ⟨g, o, none⟩ ∧ w''.cell? ⟨g, o + j, none⟩ = some (.int .i64 (x : Int))))) := fun hx => by
      have e1 := cutLo_drop HI.out.2 hx
      have e2 : (cutLo (p - n) T).length = M := by rw [e1, List.length_drop, HTT.out.1]; exact hM
      refine ⟨ad, C, by rw [e2], by rw [e2]; omega, fun γ' w'' p' hl hF j x hjx => ?_⟩
      rw [e1, List.getElem?_drop] at hjx
      obtain ⟨g, o, f1, f2⟩ := HRD.out γ' w'' p' hl hF (i + j) x hjx
      have hlt := (List.getElem?_eq_some_iff.1 hjx).1
      have := HTT.out.1
      refine ⟨g, o + i, HI.out.1 g o f1 (by omega), ?_⟩
      rw [← f2, Nat.add_assoc]
    by_cases him : i < m
    · have hd1 : decide (0 < M) = true := decide_eq_true (by omega)
      have hd1' : decide ((0 : Int) < (M : Int)) = true := by simp; omega
      obtain ⟨x, hx⟩ : ∃ x, T[i]? = some x := ⟨_, List.getElem?_eq_getElem (by rw [HTT.out.1]; exact him)⟩
      obtain ⟨g, o, hg, hcx⟩ := HRD.out γ w p (gle.refl γ) HF.out i x hx
      have had := HI.out.1 g o hg him
      subst had
      have hxp := HTT.out.2 x (List.mem_of_getElem? hx)
      obtain ⟨t, ht⟩ : ∃ t, p - x = t := ⟨_, rfl⟩
      have hti : (p : Int) - (x : Int) = (t : Int) := by omega
      have hxi : (x : Int) ≤ 140737488355328 := by omega
      have htb : (t : Int) ≤ 140737488355328 := by omega
      have hM0 : 0 < M := by omega
      by_cases htn : n < t
      · have hd2 : decide (n < t) = true := decide_eq_true htn
        have hd2' : decide ((n : Int) < (t : Int)) = true := by simp; omega
        obtain ⟨ad', had', hcut⟩ := run_cut1 g (o + i) M C w (by omega) (by omega)
        have HN : Hid ((∀ g o, ad0 = some ⟨g, o, none⟩ → i + 1 < m → ad' = some ⟨g, o + (i + 1), none⟩) ∧ (∀ j x, j < i + 1 → T[j]? = some x → x < p - n)) := by
          refine ⟨fun g' o' e hlt => ?_, fun j y hj hy => ?_⟩
          · rw [hg] at e
            simp only [Option.some.injEq, Addr.mk.injEq, and_true] at e
            rw [had' (by omega), ← e.1, ← e.2]
            rfl
          · by_cases e : j = i
            · subst e
              rw [hx] at hy
              obtain rfl := Option.some.inj hy
              omega
            · exact HI.out.2 j y (by omega) hy
        clear HRES HI hg hx ht hM hC had'
        go_wp2_with fail
        go_quiet (fail)
        go_wp2_with fail
        refine ⟨⟨i + 1, _, ad', by omega, ?_, rfl, HN.out⟩, ?_⟩
        · have := HMC.out
          rw [show m - (i + 1) = M - 1 by omega, show c - (i + 1) = C - 1 by omega]
        · show M - 1 < M
          omega
      · have hd2 : decide (n < t) = false := decide_eq_false htn
        have hd2' : decide ((n : Int) < (t : Int)) = false := by simp; omega
        have HR := HRES.out (fun y hy => by rw [hx] at hy; obtain rfl := Option.some.inj hy; omega)
        have HR2 : Hid _ := HR
        clear HR HRES HI hg hx ht hM hC
        go_wp2_with fail
        go_quiet (fail)
        go_wp2
        go_ret
        exact ⟨HR2.out, _, World.drewN_drewN _ _ _⟩
    · have hd1 : decide (0 < M) = false := decide_eq_false (by omega)
      have hd1' : decide ((0 : Int) < (M : Int)) = false := by simp; omega
      have HR2 : Hid _ := HRES.out (fun y hy => by have := (List.getElem?_eq_some_iff.1 hy).1; have := HTT.out.1; omega)
      clear HRES HI hM hC
      go_wp2_with fail
      go_quiet (fail)
      go_wp2
      go_ret
      exact ⟨HR2.out, _, World.drewN_drewN _ _ _⟩
end Go.Proofs.Ytkdionoelbiidaa
