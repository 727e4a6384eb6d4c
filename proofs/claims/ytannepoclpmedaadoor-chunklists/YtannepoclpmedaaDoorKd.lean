/- The program's Get; what is asked of the program's chunks holds; of no statement by itself. -/
import Derived.Test.YtannepoclpmedaaDoorKf
namespace Go.Proofs.YtannepoclpmedaaDoor
open Go.RowKit
open St12
set_option linter.unusedVariables false
set_option linter.unusedSimpArgs false
theorem len_all : ∀ F : Fin 4, tab1[F.val]? = some ((lenN F.val : Nat) : Int) := by decide +kernel
theorem tab_len {w : World} (h : Tab w) {F : Nat} (hF : F ≤ 3) : Hid (w.cell? ⟨0, F, none⟩ = some (.int .i64 ((lenN F : Nat) : Int))) := tab_at1 h (len_all ⟨F, by omega⟩)
theorem form_le (K : Nat) : formN K ≤ 3 := by unfold formN; (repeat' split) <;> omega
theorem kind_rng {f : Nat} (hf : f < 256) (h : f < 3 ∨ 128 ≤ f) : kindA f ≤ 6 := by unfold kindA; split <;> omega
theorem want_len {f : Nat} (hf : f < 256) (h : f < 3 ∨ 128 ≤ f) : lenN (formN (kindA f)) = Ck17.wantN f := by
  unfold kindA
  split
  · next h1 =>
    have : (f - 128) / 32 = 0 ∨ (f - 128) / 32 = 1 ∨ (f - 128) / 32 = 2 ∨ (f - 128) / 32 = 3 := by omega
    unfold Ck17.wantN
    rw [if_neg (by omega), if_neg (by omega), if_neg (by omega)]
    rcases this with e | e | e | e
    · rw [e, if_pos (by omega)]; rfl
    · rw [e, if_pos (by omega)]; rfl
    · rw [e, if_neg (by omega)]; rfl
    · rw [e, if_neg (by omega)]; rfl
  · next h1 =>
    have : f = 0 ∨ f = 1 ∨ f = 2 := by omega
    rcases this with rfl | rfl | rfl <;> rfl
theorem at_take (bs : List Nat) (n i : Nat) (h : i < n) : Ck17.at_ (bs.take n) i = Ck17.at_ bs i := by
  unfold Ck17.at_
  rw [List.getD_eq_getElem?_getD, List.getD_eq_getElem?_getD, List.getElem?_take, if_pos h]
theorem get_bad {bs : List Nat} (h0 : bs.length ≠ 0) (hf : ¬ (Ck17.at_ bs 0 < 3 ∨ 128 ≤ Ck17.at_ bs 0)) : Ck17.getA bs = (Ck17.zeroC, 0, 2) := by
  unfold Ck17.getA
  rw [if_neg h0, if_neg (by omega), if_pos (by omega)]
theorem get_cut {bs : List Nat} (h0 : bs.length ≠ 0) (hf : Ck17.at_ bs 0 < 3 ∨ 128 ≤ Ck17.at_ bs 0) (hl : bs.length < Ck17.wantN (Ck17.at_ bs 0)) : Ck17.getA bs = (Ck17.zeroC, 0, 1) := by
  unfold Ck17.getA
  rw [if_neg h0]
  by_cases e : Ck17.at_ bs 0 = 0
  · rw [e] at hl
    unfold Ck17.wantN at hl
    rw [if_pos rfl] at hl
    omega
  · rw [if_neg e, if_neg (by omega), if_pos hl]
theorem get_read {bs : List Nat} (hd : ∀ i, Ck17.at_ bs i < 256) (h0 : bs.length ≠ 0) (hf : Ck17.at_ bs 0 < 3 ∨ 128 ≤ Ck17.at_ bs 0) (hl : ¬ bs.length < Ck17.wantN (Ck17.at_ bs 0)) :
    Ck17.getA bs = if (readA (kindA (Ck17.at_ bs 0)) (bs.take (Ck17.wantN (Ck17.at_ bs 0)))).2 ≠ 0 then (Ck17.zeroC, 0, (readA (kindA (Ck17.at_ bs 0)) (bs.take (Ck17.wantN (Ck17.at_ bs 0)))).2) else ((readA (kindA (Ck17.at_ bs 0)) (bs.take (Ck17.wantN (Ck17.at_ bs 0)))).1, Ck17.wantN (Ck17.at_ bs 0), 0) := by
  have hd0 := hd 0
  obtain ⟨f, hff⟩ : ∃ f, Ck17.at_ bs 0 = f := ⟨_, rfl⟩
  unfold Ck17.getA
  rw [if_neg h0]
  rw [hff] at hf hl hd0 ⊢
  by_cases e0 : f = 0
  · subst e0
    rw [if_pos rfl]
    rfl
  rw [if_neg e0, if_neg (by omega), if_neg hl]
  by_cases h3 : f < 3
  · rw [if_pos h3]
    have hw : Ck17.wantN f = 3 := by unfold Ck17.wantN; rw [if_neg e0, if_pos h3]
    have hk : kindA f = f := if_neg (by omega)
    have hF : formN f = 1 := by unfold formN; rw [if_neg e0, if_pos h3]
    have hr : readA (kindA f) (bs.take (Ck17.wantN f)) = (⟨(f : Int), ((256 * Ck17.at_ bs 1 + Ck17.at_ bs 2 + 1 : Nat) : Int), ((256 * Ck17.at_ bs 1 + Ck17.at_ bs 2 + 1 : Nat) : Int), 0, 0, 0⟩, 0) := by
      rw [hk, hw]
      unfold readA
      rw [hF, if_neg (by decide), if_pos rfl, at_take bs 3 1 (by decide), at_take bs 3 2 (by decide)]
      rw [show ((256 * Ck17.at_ bs 1 + Ck17.at_ bs 2 + 1 : Nat) : Int) = (Ck17.at_ bs 1 : Int) * 256 + (Ck17.at_ bs 2 : Int) + 1 by omega]
    rw [hr, if_neg (fun h => h rfl), hw]
  rw [if_neg h3]
  have e1 : ((3 + f / 32 - 4 : Nat) : Int) = ((kindA f : Nat) : Int) := by unfold kindA; rw [if_pos (by omega)]; omega
  have e2 : ∀ x y z : Nat, ((256 * x + y + 1 + 65536 * z : Nat) : Int) = (x : Int) * 256 + (y : Int) + 1 + (z : Int) * 65536 := fun x y z => by omega
  have e3 : ∀ x y : Nat, ((256 * x + y + 1 : Nat) : Int) = (x : Int) * 256 + (y : Int) + 1 := fun x y => by omega
  by_cases h4 : f < 192
  · rw [if_pos h4]
    have hw : Ck17.wantN f = 5 := by unfold Ck17.wantN; rw [if_neg e0, if_neg h3, if_neg (by omega), if_pos h4]
    have hF : formN (kindA f) = 2 := by unfold kindA; rw [if_pos (by omega)]; unfold formN; rw [if_neg (by omega), if_neg (by omega), if_pos (by omega)]
    have hr : readA (kindA f) (bs.take (Ck17.wantN f)) = (⟨((3 + f / 32 - 4 : Nat) : Int), ((256 * Ck17.at_ bs 1 + Ck17.at_ bs 2 + 1 + 65536 * (f % 32) : Nat) : Int), ((256 * Ck17.at_ bs 3 + Ck17.at_ bs 4 + 1 : Nat) : Int), 0, 0, 0⟩, 0) := by
      rw [hw]
      unfold readA
      rw [hF, if_neg (by decide), if_neg (by decide), if_pos rfl, at_take bs 5 0 (by decide), at_take bs 5 1 (by decide), at_take bs 5 2 (by decide), at_take bs 5 3 (by decide), at_take bs 5 4 (by decide), e1, e2, e3, hff]
    rw [hr, if_neg (fun h => h rfl), hw]
  · rw [if_neg h4]
    have hw : Ck17.wantN f = 6 := by unfold Ck17.wantN; rw [if_neg e0, if_neg h3, if_neg (by omega), if_neg h4]
    have hF : formN (kindA f) = 3 := by unfold kindA; rw [if_pos (by omega)]; unfold formN; rw [if_neg (by omega), if_neg (by omega), if_neg (by omega)]
    have hr : readA (kindA f) (bs.take (Ck17.wantN f)) = (⟨((3 + f / 32 - 4 : Nat) : Int), ((256 * Ck17.at_ bs 1 + Ck17.at_ bs 2 + 1 + 65536 * (f % 32) : Nat) : Int), ((256 * Ck17.at_ bs 3 + Ck17.at_ bs 4 + 1 : Nat) : Int), (propsB (Ck17.at_ bs 5 : Int)).1.lc, (propsB (Ck17.at_ bs 5 : Int)).1.lp, (propsB (Ck17.at_ bs 5 : Int)).1.pb⟩, (propsB (Ck17.at_ bs 5 : Int)).2) := by
      rw [hw]
      unfold readA
      rw [hF, if_neg (by decide), if_neg (by decide), if_neg (by decide), at_take bs 6 0 (by decide), at_take bs 6 1 (by decide), at_take bs 6 2 (by decide), at_take bs 6 3 (by decide), at_take bs 6 4 (by decide), at_take bs 6 5 (by decide), e1, e2, e3, hff]
    rw [hr, hw]
    by_cases h5 : (propsB (Ck17.at_ bs 5 : Int)).2 ≠ 0
    · rw [if_pos h5, if_pos h5]
      have h6 : (propsB (Ck17.at_ bs 5 : Int)).2 = 2 := by
        have := hd 5
        unfold propsB at h5 ⊢
        rw [if_neg (by omega)] at h5 ⊢
        split at h5
        · exact absurd rfl h5
        · next ha => rw [if_neg ha]
      rw [h6]
    · rw [if_neg h5, if_neg h5]
set_option maxHeartbeats 8000000 in
set_option maxRecDepth 100000 in
theorem get17_any (ad : Option Addr) (n cp : Nat) (bs : List Nat) (w : World) (hT : Tab w) (hr : Row8 w ad n cp (nums bs)) (hdg : Rc.Dig bs) (hcp : n ≤ cp) (hn : n ≤ 140737488355328) : Calls Tryd.prog 12 #[.slice ad n cp] w fun e w' => e = .returned (.tuple #[chv (Ck17.getA bs).1, .int .i64 ((Ck17.getA bs).2.1 : Int), .int .i64 (Ck17.getA bs).2.2]) ∧ Chg (fun _ => False) w w' := by
  have hbl : bs.length = n := by have h9 := hr.1; rw [nums_len] at h9; exact h9
  have HC0 : Hid (Chg (fun _ => False) w (w.alloc (.cells #[.int .i64 0, .int .i64 0, .int .i64 0, .int .i64 0, .int .i64 0, .int .i64 0] 25))) := chg_one w _
  have HB0 : Hid ((w.alloc (.cells #[.int .i64 0, .int .i64 0, .int .i64 0, .int .i64 0, .int .i64 0, .int .i64 0] 25)).heap[w.heap.size]? = some (.cells #[.int .i64 0, .int .i64 0, .int .i64 0, .int .i64 0, .int .i64 0, .int .i64 0] 25 (0, 0))) := heap_alloc_last w _
  have HT0 : Hid (Tab (w.alloc (.cells #[.int .i64 0, .int .i64 0, .int .i64 0, .int .i64 0, .int .i64 0, .int .i64 0] 25))) := tab_keep hT HC0.out
  have hni : (n : Int) ≤ 140737488355328 := by omega
  have HRW : Hid (Row8 w ad n cp (nums bs)) := hr
  have HBL : Hid (bs.length = n) := hbl
  have HDG : Hid (Rc.Dig bs) := hdg
  have HAT : Hid (∀ i, Ck17.at_ bs i < 256) := fun i => by
    unfold Ck17.at_
    rw [List.getD_eq_getElem?_getD]
    cases e : bs[i]? with
    | none => simp
    | some y => exact hdg y (List.mem_of_getElem? e)
  clear hT hdg hbl
  by_cases h0 : n = 0
  · subst h0
    have HA : Hid (Ck17.getA bs = (Ck17.zeroC, 0, 1)) := by show _ = _; unfold Ck17.getA; rw [if_pos HBL.out]
    clear hr
    go_enter Tryd.func12, Tryd.ntmps12
    go_wp2
    refine bodyPost_ret (v := .tuple #[.agg #[.int .i64 0, .int .i64 0, .int .i64 0, .int .i64 0, .int .i64 0, .int .i64 0], .int .i64 0, .int .i64 1]) (by simp [results, Tryd.results12, go_sem]) rfl ?_
    exact ⟨by rw [HA.out]; rfl, HC0.out⟩
  have d0 : ((n : Int) == 0) = false := by simp; omega
  obtain ⟨b, off, rfl, hcell⟩ := row8_at hr (by omega)
  have hc0 := cell_chg (hcell 0 (by omega)) HC0.out
  rw [Nat.add_zero] at hc0
  have hi0 : (0 : Int) < (n : Int) := by omega
  obtain ⟨f, hf⟩ : ∃ f, Ck17.at_ bs 0 = f := ⟨_, rfl⟩
  have hf' := HAT.out 0
  have hf9 : (f : Int) ≤ 255 := by omega
  replace hc0 : (w.alloc (.cells #[.int .i64 0, .int .i64 0, .int .i64 0, .int .i64 0, .int .i64 0, .int .i64 0] 25)).cell? ⟨b, off, none⟩ = some (.int .u8 (f : Int)) := by rw [← hf]; exact hc0
  have HF : Hid (Ck17.at_ bs 0 = f) := hf
  have hfn : f < 256 := by omega
  have HK : Hid _ := kindOf_q f hfn (w.alloc (.cells #[.int .i64 0, .int .i64 0, .int .i64 0, .int .i64 0, .int .i64 0, .int .i64 0] 25))
  clear hr hcell hf hf'
  by_cases hok : f < 3 ∨ 128 ≤ f
  · rw [decide_eq_true hok] at HK
    have hk6 : kindA f ≤ 6 := kind_rng hfn hok
    obtain ⟨K, hK⟩ : ∃ K, kindA f = K := ⟨_, rfl⟩
    rw [hK] at HK hk6
    obtain ⟨F, hF⟩ : ∃ F, formN K = F := ⟨_, rfl⟩
    have hF3 : F ≤ 3 := by rw [← hF]; exact form_le K
    have HQ := tab_form HT0.out hk6
    rw [hF] at HQ
    have HQ2 := tab_len HT0.out hF3
    obtain ⟨m, hm⟩ : ∃ m, lenN F = m := ⟨_, rfl⟩
    rw [hm] at HQ2
    have hq := HQ.out
    have hq2 := HQ2.out
    have hmw : Ck17.wantN f = m := by rw [← want_len hfn hok, hK, hF, hm]
    have hm6 : m ≤ 6 := by rw [← hm]; unfold lenN; (repeat' split) <;> omega
    have hm6' : (m : Int) ≤ 6 := by omega
    clear HQ HQ2
    by_cases hlt : n < m
    · have d1 : decide ((n : Int) < (m : Int)) = true := decide_eq_true (by omega)
      have d1' : decide (n < m) = true := decide_eq_true hlt
      have HA : Hid (Ck17.getA bs = (Ck17.zeroC, 0, 1)) := get_cut (by rw [HBL.out]; exact h0) (by rw [HF.out]; exact hok) (by rw [HF.out, HBL.out, hmw]; exact hlt)
      clear hok h0 hmw hlt hK hF hm
      go_enter Tryd.func12, Tryd.ntmps12
      go_wp2_with fail
      refine Calls.mono HK.out ?_
      rintro z w1 ⟨rfl, rfl⟩
      clear HK
      go_wp2
      refine bodyPost_ret (v := .tuple #[.agg #[.int .i64 0, .int .i64 0, .int .i64 0, .int .i64 0, .int .i64 0, .int .i64 0], .int .i64 0, .int .i64 1]) (by simp [results, Tryd.results12, go_sem]) rfl ?_
      exact ⟨by rw [HA.out]; rfl, HC0.out⟩
    · have d1 : decide ((n : Int) < (m : Int)) = false := decide_eq_false (by omega)
      have d1' : decide (n < m) = false := decide_eq_false hlt
      have hRD : Row8 (w.alloc (.cells #[.int .i64 0, .int .i64 0, .int .i64 0, .int .i64 0, .int .i64 0, .int .i64 0] 25)) (some ⟨b, off, none⟩) m cp (nums (bs.take m)) := row8_take (row8_keep HRW.out HC0.out (fun _ _ f => f)) (by omega)
      have hRQ := read_q K hk6 (some ⟨b, off, none⟩) cp m (bs.take m) (w.alloc (.cells #[.int .i64 0, .int .i64 0, .int .i64 0, .int .i64 0, .int .i64 0, .int .i64 0] 25)) HT0.out hRD (fun x hx => HDG.out x (List.mem_of_mem_take hx)) (by rw [hF, hm])
      have hGA := get_read HAT.out (by rw [HBL.out]; exact h0) (by rw [HF.out]; exact hok) (by rw [HF.out, HBL.out, hmw]; exact hlt)
      rw [HF.out, hmw, hK] at hGA
      obtain ⟨⟨⟨k', s', p', lc', lp', pb'⟩, er⟩, hRA⟩ : ∃ r, readA K (bs.take m) = r := ⟨_, rfl⟩
      rw [hRA] at hGA hRQ
      unfold chv at hRQ
      simp only at hGA hRQ
      have HR : Hid _ := hRQ
      have hmc : m ≤ cp := by omega
      have hmci : (m : Int) ≤ (cp : Int) := by omega
      have hm1 : 1 ≤ m := by rw [← hm]; unfold lenN; (repeat' split) <;> omega
      have hm0 : ¬ m = 0 := by omega
      clear hok h0 hmw hlt hK hF hm hRD hRQ hRA
      by_cases her : er = 0
      · subst her
        rw [if_neg (fun h => h rfl)] at hGA
        have HA : Hid _ := hGA
        clear hGA
        go_enter Tryd.func12, Tryd.ntmps12
        go_wp2_with fail
        refine Calls.mono HK.out ?_
        rintro z w1 ⟨rfl, rfl⟩
        clear HK
        go_wp2_with fail
        refine Calls.mono HR.out ?_
        rintro z w2 ⟨rfl, c2⟩
        have HC2 : Hid (Chg (fun _ => False) w (w2.alloc (.cells #[.int .i64 k', .int .i64 s', .int .i64 p', .int .i64 lc', .int .i64 lp', .int .i64 pb'] 25))) := (chg_then HC0.out c2).alloc _
        have HB2 : Hid _ := blk_keep HB0.out (chg_then c2 (chg_one w2 (.cells #[.int .i64 k', .int .i64 s', .int .i64 p', .int .i64 lc', .int .i64 lp', .int .i64 pb'] 25))) (fun f => f)
        obtain ⟨⟨y0, h0⟩, ⟨y1, h1⟩, ⟨y2, h2⟩, ⟨y3, h3⟩, ⟨y4, h4⟩, ⟨y5, h5⟩, hend, cS⟩ := store6 HB2.out (.int .i64 k') (.int .i64 s') (.int .i64 p') (.int .i64 lc') (.int .i64 lp') (.int .i64 pb')
        have HE : Hid _ := cells6 hend
        have HCE : Hid (Chg (fun _ => False) w _) := HC2.out.trans cS (fun z e => .inr (by omega))
        clear hend cS HR c2 HC2 HB2 HC0 HB0 HT0 hq hq2 hc0
        go_wp2
        obtain ⟨z0, z1, z2, z3, z4, z5⟩ := HE.out
        refine bodyPost_ret (v := .tuple #[.agg #[.int .i64 k', .int .i64 s', .int .i64 p', .int .i64 lc', .int .i64 lp', .int .i64 pb'], .int .i64 (m : Int), .int .i64 0]) (by simp [results, Tryd.results12, go_sem, z0, z1, z2, z3, z4, z5]) rfl ?_
        exact ⟨by rw [HA.out]; rfl, HCE.out⟩
      · have e1 : (er == 0) = false := by simpa using her
        rw [if_pos her] at hGA
        have HA : Hid _ := hGA
        clear hGA her
        go_enter Tryd.func12, Tryd.ntmps12
        go_wp2_with fail
        refine Calls.mono HK.out ?_
        rintro z w1 ⟨rfl, rfl⟩
        clear HK
        go_wp2_with fail
        refine Calls.mono HR.out ?_
        rintro z w2 ⟨rfl, c2⟩
        have HC2 : Hid (Chg (fun _ => False) w (w2.alloc (.cells #[.int .i64 k', .int .i64 s', .int .i64 p', .int .i64 lc', .int .i64 lp', .int .i64 pb'] 25))) := (chg_then HC0.out c2).alloc _
        have HB2 : Hid _ := blk_keep HB0.out (chg_then c2 (chg_one w2 (.cells #[.int .i64 k', .int .i64 s', .int .i64 p', .int .i64 lc', .int .i64 lp', .int .i64 pb'] 25))) (fun f => f)
        obtain ⟨⟨y0, h0⟩, ⟨y1, h1⟩, ⟨y2, h2⟩, ⟨y3, h3⟩, ⟨y4, h4⟩, ⟨y5, h5⟩, hend, cS⟩ := store6 HB2.out (.int .i64 0) (.int .i64 0) (.int .i64 0) (.int .i64 0) (.int .i64 0) (.int .i64 0)
        have HE : Hid _ := cells6 hend
        have HCE : Hid (Chg (fun _ => False) w _) := HC2.out.trans cS (fun z e => .inr (by omega))
        clear hend cS HR c2 HC2 HB2 HC0 HB0 HT0 hq hq2 hc0
        go_wp2
        obtain ⟨z0, z1, z2, z3, z4, z5⟩ := HE.out
        refine bodyPost_ret (v := .tuple #[.agg #[.int .i64 0, .int .i64 0, .int .i64 0, .int .i64 0, .int .i64 0, .int .i64 0], .int .i64 0, .int .i64 er]) (by simp [results, Tryd.results12, go_sem, z0, z1, z2, z3, z4, z5]) rfl ?_
        exact ⟨by rw [HA.out]; rfl, HCE.out⟩
  · rw [decide_eq_false hok] at HK
    have HA : Hid (Ck17.getA bs = (Ck17.zeroC, 0, 2)) := get_bad (by rw [HBL.out]; exact h0) (by rw [HF.out]; exact hok)
    clear hok h0
    go_enter Tryd.func12, Tryd.ntmps12
    go_wp2_with fail
    refine Calls.mono HK.out ?_
    rintro z w1 ⟨rfl, rfl⟩
    clear HK
    go_wp2
    refine bodyPost_ret (v := .tuple #[.agg #[.int .i64 0, .int .i64 0, .int .i64 0, .int .i64 0, .int .i64 0, .int .i64 0], .int .i64 0, .int .i64 2]) (by simp [results, Tryd.results12, go_sem]) rfl ?_
    exact ⟨by rw [HA.out]; rfl, HC0.out⟩
theorem chunkSpec : ChunkSpec Tab where
  keep := tab_keep
  put := fun c w hT hc => put17_any c.k c.s c.p c.lc c.lp c.pb hc w hT
  get := fun ad n cp bs w hT hr hd hcp hn => get17_any ad n cp bs w hT hr hd hcp hn
  bd := fun b w _ hb => (bd17_any b hb w).mono (fun e w' ⟨h1, h2⟩ => ⟨h1, by subst h2; exact Chg.refl _ _⟩)
  db := fun n w _ hn => db17_any n hn w
end Go.Proofs.YtannepoclpmedaaDoor
