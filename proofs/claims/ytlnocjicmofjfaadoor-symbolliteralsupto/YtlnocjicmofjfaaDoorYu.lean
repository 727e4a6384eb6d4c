/- The document's Expand; of no statement by itself. -/
import Derived.Test.YtlnocjicmofjfaaDoorYt
import Derived.Test.YtlnocjicmofjfaaDoorYx
namespace Go.Proofs.YtlnocjicmofjfaaDoor
open Go.RowKit
open St12 Sy13
set_option linter.unusedVariables false
set_option linter.unusedSimpArgs false

/-- As far as a row was gone. -/
theorem exp_take {n : Nat} {l : List Sym} {i : Nat} {bs : List Nat} {s : Stt} {y : Sym} (hr : runA n [] st0 (l.take i) = some (bs, s)) (hi : l[i]? = some y) (he : (app n bs s y).2.2 ≠ 0) : exp n [] st0 0 l = ([], i, (app n bs s y).2.2) := by
  have hlt := (List.getElem?_eq_some_iff.1 hi).1
  have e : l = l.take i ++ (y :: l.drop (i + 1)) := by
    rw [← (List.getElem?_eq_some_iff.1 hi).2, List.getElem_cons_drop, List.take_append_drop]
  rw [e, exp_append _ 0 hr]
  simp only [exp]
  rw [if_neg he]
  simp
  omega
theorem run_next {n : Nat} {l : List Sym} {i : Nat} {bs : List Nat} {s : Stt} {y : Sym} (hr : runA n [] st0 (l.take i) = some (bs, s)) (hi : l[i]? = some y) (he : (app n bs s y).2.2 = 0) : runA n [] st0 (l.take (i + 1)) = some (bs ++ (app n bs s y).1, (app n bs s y).2.1) := by
  have hlt := (List.getElem?_eq_some_iff.1 hi).1
  rw [← List.take_append_getElem hlt, (List.getElem?_eq_some_iff.1 hi).2]
  exact run_snoc hr he
theorem run_bound {n : Nat} {l : List Sym} {bs : List Nat} {s : Stt} (hr : runA n [] st0 l = some (bs, s)) : bs.length ≤ 273 * l.length := by
  have h1 := (run_len hr).1
  have h2 : ∀ l : List Sym, sumS l ≤ 273 * l.length := fun l => by
    induction l with
    | nil => simp [sumS]
    | cons y l ih =>
      have := sizeA_le y
      simp only [sumS, List.length_cons]
      omega
  have := h2 l
  simp at h1
  omega
set_option maxHeartbeats 8000000 in
set_option maxRecDepth 100000 in
theorem rexpand_any (dict : Int) (ad : Option Addr) (c len : Nat) (l : List Sym) (w0 : World) (hL : l.length = len) (hd : I64 dict) (hl : SymL w0 ad l) (hle : len ≤ 4194304) : Calls Tryd.prog 32 #[.int .i64 dict, .slice ad len c] w0 fun e w' => ∃ ov, e = .returned (.tuple #[ov, .int .i64 ((expandA dict l).2.1 : Int), .int .i64 (expandA dict l).2.2]) ∧ w'.ownsRow w0.heap.size 5 1 ov (expandA dict l).1.length (ins .u8 (nums (expandA dict l).1)) ∧ Chg (fun _ => False) w0 w' := by
  obtain ⟨iu, hiu, hu0, hu1, hu2⟩ := info_parts infoU8
  by_cases hout : dict < 1 ∨ 4294967295 < dict
  · have HA : Hid (expandA dict l = ([], 0, 7)) := by show _ = _; unfold expandA; rw [if_pos hout]
    have HN : Hid _ := rnew_out dict w0 hout
    clear hout
    go_enter Tryd.func32, Tryd.ntmps32
    go_wp2_with fail
    refine Calls.mono HN.out ?_
    rintro z w1 ⟨rfl, rfl⟩
    go_wp2
    go_ret3
    rw [HA.out]
    exact ⟨_, rfl, World.ownsRow_nil _ _ _ _, Chg.refl _ _⟩
  · obtain ⟨n, rfl⟩ : ∃ n : Nat, dict = (n : Int) := ⟨dict.toNat, by omega⟩
    have hn1 : 1 ≤ n := by omega
    have hn : n ≤ 4294967295 := by omega
    have HA : Hid (expandA (n : Int) l = exp n [] st0 0 l) := by show _ = _; unfold expandA; rw [if_neg hout, Int.toNat_natCast]
    have HN : Hid _ := rnew_in n w0 hn1 hn
    have HS0 : Hid (∀ w, Calls Tryd.prog 53 #[] w fun e w' => e = .returned (.agg #[.int .i64 0, .int .i64 1, .int .i64 1, .int .i64 1, .int .i64 1]) ∧ Chg (fun _ => False) w w') := rnew12_q
    have HSL : Hid (SymL w0 ad l) := hl
    have HLN : Hid (l.length = len) := hL
    clear hout hl hL
    go_enter Tryd.func32, Tryd.ntmps32
    go_wp2_with fail
    refine Calls.mono HN.out ?_
    rintro z w1 ⟨r, rfl, hrw, c1⟩
    have HC1 : Hid (Chg (fun _ => False) w0 w1) := c1
    have HR1 : Hid (Rw w1 w0.heap.size r (.slice none 0 0) n []) := hrw
    clear hrw c1 HN
    go_wp2_with fail
    refine Calls.mono (HS0.out _) ?_
    rintro z w2 ⟨rfl, c2⟩
    have cN := chg_one w2 (.cells #[.int .i64 0, .int .i64 1, .int .i64 1, .int .i64 1, .int .i64 1] 52)
    have HX0 : Hid (Ex Rw 52 w0 (w2.alloc (.cells #[.int .i64 0, .int .i64 1, .int .i64 1, .int .i64 1, .int .i64 1] 52)) r n (.slice none 0 0) [] w2.heap.size st0 (.slice none 0 0) []) := ⟨(HR1.out.new c2).new cN, heap_alloc_last _ _, (chg_then HC1.out c2).size, World.ownsRow_nil _ _ _ _, fun z e => (nomatch e), chg_then (chg_then HC1.out c2) cN⟩
    clear c2 cN HC1 HR1 HS0
    go_wp2_with fail
    generalize w2.alloc (.cells #[.int .i64 0, .int .i64 1, .int .i64 1, .int .i64 1, .int .i64 1] 52) = Ws at *
    generalize w2.heap.size = g9 at *
    go_loopw [10, 11] (fun v1 v2 wr => ∃ (i bL ca : Nat) (aa : Option Addr) (v : Value) (bs : List Nat) (s : Stt), i ≤ len ∧ v1 = .slice aa bL ca ∧ v2 = .int .i64 (i : Int) ∧ Hid (bs.length = bL ∧ runA n [] st0 (l.take i) = some (bs, s) ∧ Ex Rw 52 w0 wr r n v bs g9 s (.slice aa bL ca) bs)) (fun _ v2 _ => len - (intOf v2).toNat)
    case atStart => exact ⟨0, 0, 0, none, _, [], st0, by omega, rfl, rfl, rfl, rfl, HX0.out⟩
    case round =>
      clear HX0
      obtain ⟨i, bL, ca, aa, v, bs, s, hi, rfl, rfl, HI⟩ := hrel
      have hii : (i : Int) ≤ (len : Int) := by omega
      have hle2 : (len : Int) ≤ 4194304 := by omega
      by_cases hlt : i < len
      · have hd1 : decide ((i : Int) < (len : Int)) = true := by simp; omega
        have hd1' : decide (i < len) = true := decide_eq_true hlt
        obtain ⟨y, hy⟩ : ∃ y, l[i]? = some y := ⟨l[i]'(by have := HLN.out; omega), List.getElem?_eq_getElem _⟩
        have HYI : Hid (l[i]? = some y) := hy
        obtain ⟨hyi, lb, lo, had, _⟩ := HSL.out i y hy
        have HII : Hid y.I := hyi
        have HX : Hid (Ex Rw 52 w0 wr r n v bs g9 s (.slice aa bL ca) bs) := HI.out.2.2
        have HRN : Hid (runA n [] st0 (l.take i) = some (bs, s)) := HI.out.2.1
        have HBE : Hid (bs.length = bL) := HI.out.1
        have HSR : Hid (right s) := run_right HRN.out (by decide)
        have HSI : Hid s.I := right_I HSR.out
        have HBL : Hid (bs.length ≤ 273 * 4194304) := by
          have := run_bound HRN.out
          rw [List.length_take] at this
          show _ ≤ _
          omega
        have HST : Hid (wr.heap[g9]? = some (.cells #[.int .i64 s.n, .int .i64 s.a, .int .i64 s.b, .int .i64 s.c, .int .i64 s.d] 52 (0, 0))) := HX.out.st
        have HNF : Hid (¬ Foot r v g9) := rw_like.off HX.out.win HX.out.st (by decide) (by decide)
        have HLT : Hid (∀ z, Foot r v z → w0.heap.size ≤ z ∧ z < wr.heap.size) := fun z f => rw_like.lt HX.out.win z f
        obtain ⟨xs, t, er, hap⟩ : ∃ xs t er, app n bs s y = (xs, t, er) := ⟨_, _, _, rfl⟩
        have HAP : Hid (app n bs s y = (xs, t, er)) := hap
        clear hy hyi HI hap
        subst had
        go_wp2_with fail
        generalize hwe : wr = W0 at *
        clear hwe
        refine wp_region_setM (mk := fun u => #[_, _, _, _, _, _, _, _, _, _, _, _, u 12, u 13, _, _, _, _, _, _, _, _, _, _, _, _, _, _, _, _, u 30, u 31, u 32, u 33, u 34, u 35, u 36, u 37, u 38, u 39, u 40, _, _, _, _, _, _, _, _, _, _, _]) (G := lookG [(31, .pointer (some ⟨r, 0, none⟩)), (32, .agg #[.int .i64 s.n, .int .i64 s.a, .int .i64 s.b, .int .i64 s.c, .int .i64 s.d]), (33, .slice (some ⟨lb, lo, none⟩) len c), (34, .int .i64 (i : Int)), (35, .pointer (some ⟨lb, lo + i * 4, none⟩)), (36, .agg #[.int .i64 y.k, .int .u8 y.y, .int .i64 y.l, .int .i64 y.d])]) (J := fun L_ u ww => Chg (Foot r v) W0 ww ∧ ((L_ 6 = false ∧ L_ 7 = false ∧ L_ 8 = false ∧ L_ 9 = false ∧ L_ 10 = false ∧ L_ 12 = false ∧ L_ 13 = false ∧ Chg (fun _ => False) W0 ww) ∨ (L_ 6 = true ∧ ∃ ov v', u 37 = .tuple #[ov, .agg #[.int .i64 t.n, .int .i64 t.a, .int .i64 t.b, .int .i64 t.c, .int .i64 t.d], .int .i64 er] ∧ (L_ 7 = true → u 30 = .tuple #[ov, .agg #[.int .i64 t.n, .int .i64 t.a, .int .i64 t.b, .int .i64 t.c, .int .i64 t.d], .int .i64 er]) ∧ (L_ 8 = true → u 38 = ov) ∧ (L_ 9 = true → u 39 = .agg #[.int .i64 t.n, .int .i64 t.a, .int .i64 t.b, .int .i64 t.c, .int .i64 t.d]) ∧ (L_ 10 = true → u 40 = .int .i64 er) ∧ (L_ 12 = true → u 12 = ov) ∧ (Made Rw w0.heap.size W0.heap.size r n (bs ++ xs) xs ov v' ww ∧ Moved W0 v v'))) ∧ (L_ 11 = true → ∃ b7, u 13 = .pointer (some ⟨b7, 0, none⟩) ∧ W0.heap.size ≤ b7 ∧ ww.heap[b7]? = some (.cells (if L_ 13 = true then #[.int .i64 t.n, .int .i64 t.a, .int .i64 t.b, .int .i64 t.c, .int .i64 t.d] else #[.int .i64 0, .int .i64 0, .int .i64 0, .int .i64 0, .int .i64 0]) 52 (0, 0))) ∧ (L_ 13 = true → L_ 11 = true)) [6, 7, 8, 9, 10, 12, 11, 13] ([]) (fun q => match q with | 12 => u12 | 13 => u13 | 30 => u30 | 31 => u31 | 32 => u32 | 33 => u33 | 34 => u34 | 35 => u35 | 36 => u36 | 37 => u37 | 38 => u38 | 39 => u39 | 40 => u40 | _ => undef) rfl (by kernel_rfl) 14 _ rfl rfl (by kernel_rfl) (by kernel_rfl) ?_ ?_ ?_ ?_ ?_
        · repeat (refine ⟨fun _ _ => rfl, ?_⟩)
          exact trivial
        · intro L_ L2 u u2 ww h hj
          have l6_ : L_ 6 = L2 6 := (h 6 (by decide)).1
          have e6_ : u 37 = u2 37 := (h 6 (by decide)).2
          have l7_ : L_ 7 = L2 7 := (h 7 (by decide)).1
          have e7_ : u 30 = u2 30 := (h 7 (by decide)).2
          have l8_ : L_ 8 = L2 8 := (h 8 (by decide)).1
          have e8_ : u 38 = u2 38 := (h 8 (by decide)).2
          have l9_ : L_ 9 = L2 9 := (h 9 (by decide)).1
          have e9_ : u 39 = u2 39 := (h 9 (by decide)).2
          have l10_ : L_ 10 = L2 10 := (h 10 (by decide)).1
          have e10_ : u 40 = u2 40 := (h 10 (by decide)).2
          have l12_ : L_ 12 = L2 12 := (h 12 (by decide)).1
          have e12_ : u 12 = u2 12 := (h 12 (by decide)).2
          have l11_ : L_ 11 = L2 11 := (h 11 (by decide)).1
          have e11_ : u 13 = u2 13 := (h 11 (by decide)).2
          have l13_ : L_ 13 = L2 13 := (h 13 (by decide)).1
          show _ ∧ _
          rw [← l6_, ← e6_, ← l7_, ← e7_, ← l8_, ← e8_, ← l9_, ← e9_, ← l10_, ← e10_, ← l12_, ← e12_, ← l11_, ← e11_, ← l13_]
          exact hj
        · exact ⟨(Chg.refl _ W0).drew, .inl ⟨rfl, rfl, rfl, rfl, rfl, rfl, rfl, (Chg.refl _ W0).drew⟩, (fun h => nomatch h), (fun h => nomatch h)⟩
        · refine ⟨?_, ?_, ?_, ?_, ?_, ?_, ?_, ?_, ?_, ?_, ?_, ?_, ?_, ?_, trivial⟩
          · show StepRS _ _ _ _ _ _ _ _ -- 31
            unfold StepRS
            intro L_ u w_ hj hd K hK
            clear hd
            have hc := hj.1
            clear hj hc
            go_simp
            exact hK.out _ rfl
          · show StepRS _ _ _ _ _ _ _ _ -- 32
            unfold StepRS
            intro L_ u w_ hj hd K hK
            clear hd
            have hc := hj.1
            obtain ⟨x0, x1, x2, x3, x4⟩ := cells5 (blk_keep HST.out hc HNF.out)
            clear hj hc
            go_simp
            exact hK.out _ rfl
          · show StepRS _ _ _ _ _ _ _ _ -- 33
            unfold StepRS
            intro L_ u w_ hj hd K hK
            clear hd
            have hc := hj.1
            clear hj hc
            go_simp
            exact hK.out _ rfl
          · show StepRS _ _ _ _ _ _ _ _ -- 34
            unfold StepRS
            intro L_ u w_ hj hd K hK
            clear hd
            have hc := hj.1
            clear hj hc
            go_simp
            exact hK.out _ rfl
          · show StepRS _ _ _ _ _ _ _ _ -- 35
            unfold StepRS
            intro L_ u w_ hj hd K hK
            have h33 : u 33 = .slice (some ⟨lb, lo, none⟩) len c := hd.get 2 (by kernel_rfl)
            have h34 : u 34 = .int .i64 (i : Int) := hd.get 3 (by kernel_rfl)
            clear hd
            simp only [h33, h34] at hK
            have hc := hj.1
            clear hj hc
            go_simp
            exact hK.out _ rfl
          · show StepRS _ _ _ _ _ _ _ _ -- 36
            unfold StepRS
            intro L_ u w_ hj hd K hK
            have h35 : u 35 = .pointer (some ⟨lb, lo + i * 4, none⟩) := hd.get 4 (by kernel_rfl)
            clear hd
            simp only [h35] at hK
            have hc := hj.1
            have hce : Chg (fun _ => False) w0 w_ := HX.out.chg.trans hc (fun z f => .inr (HLT.out z f).1)
            obtain ⟨_, b2, o2, e2, x0, x1, x2, x3⟩ := HSL.out.new hce i y HYI.out
            obtain ⟨rfl, rfl⟩ : b2 = lb ∧ o2 = lo := by simp only [Option.some.injEq, Addr.mk.injEq, and_true] at e2; exact ⟨e2.1.symm, e2.2.symm⟩
            clear e2 hce
            clear hj hc
            go_simp
            exact hK.out _ rfl
          · show StepWS _ _ _ _ _ _ _ _ _ -- 37
            unfold StepWS
            intro L_ u w_ hj hli hwt hd K hK
            have h31 : u 31 = .pointer (some ⟨r, 0, none⟩) := hd.get 0 (by kernel_rfl)
            have h32 : u 32 = .agg #[.int .i64 s.n, .int .i64 s.a, .int .i64 s.b, .int .i64 s.c, .int .i64 s.d] := hd.get 1 (by kernel_rfl)
            have h36 : u 36 = .agg #[.int .i64 y.k, .int .u8 y.y, .int .i64 y.l, .int .i64 y.d] := hd.get 5 (by kernel_rfl)
            clear hd
            simp only [h31, h32, h36] at hK
            obtain ⟨hc, hm, ha, hs⟩ := hj
            rcases hm with ⟨n37, n30, n38, n39, n40, n12, ns, hF⟩ | ⟨l37, _⟩
            · have m30 : ¬ L_ 7 = true := by rw [n30]; decide
              have m38 : ¬ L_ 8 = true := by rw [n38]; decide
              have m39 : ¬ L_ 9 = true := by rw [n39]; decide
              have m40 : ¬ L_ 10 = true := by rw [n40]; decide
              have m12 : ¬ L_ 12 = true := by rw [n12]; decide
              go_simp
              refine Calls.mono (rapply_any w0.heap.size r v n bs s.n s.a s.b s.c s.d y.k y.y y.l y.d HSI.out HII.out w_ (rw_like.keep HX.out.win hF (fun _ _ f => f)) (by have := HX.out.chg.size; have := hF.size; omega) hn (by have := HBL.out; omega)) ?_
              rintro z w2 ⟨ov, v', rfl, hm9, c2, hmv⟩
              simp only [show (⟨s.n, s.a, s.b, s.c, s.d⟩ : Stt) = s from rfl, show (⟨y.k, y.y, y.l, y.d⟩ : Sym) = y from rfl, HAP.out] at hm9 hK ⊢
              exact hK.out _ w2 ⟨hc.trans c2 (fun z f => .inl f), .inr ⟨rfl, ov, v', rfl, (fun e => absurd e m30), (fun e => absurd e m38), (fun e => absurd e m39), (fun e => absurd e m40), (fun e => absurd e m12), ⟨hm9.base hF.size, moved_from hF.size hmv⟩⟩, (fun e => by obtain ⟨b7, e7, hb7, hk7⟩ := ha e; exact ⟨b7, e7, hb7, blk_keep hk7 c2 (fun f => by have := (HLT.out b7 f).2; omega)⟩), hs⟩ trivial
            · rw [l37] at hli; cases hli
          · show StepWS _ _ _ _ _ _ _ _ _ -- 30
            unfold StepWS
            intro L_ u w_ hj hli hwt hd K hK
            clear hd
            obtain ⟨hc, hm, ha, hs⟩ := hj
            have lopr : L_ 6 = true := hwt ⟨6, .data⟩ (by simp) rfl
            rcases hm with ⟨n37, n30, n38, n39, n40, n12, ns, hF⟩ | ⟨l37, ov, v', e37, q30, q38, q39, q40, q12, hp⟩
            · rw [n37] at lopr; cases lopr
            · have eo := e37
              have HPH : Hid _ := hp
              clear hp
              simp only [eo] at hK ⊢
              go_simp
              exact hK.out _ _ ⟨hc, .inr ⟨l37, ov, v', e37, (fun _ => rfl), q38, q39, q40, q12, HPH.out⟩, ha, hs⟩ trivial
          · show StepWS _ _ _ _ _ _ _ _ _ -- 38
            unfold StepWS
            intro L_ u w_ hj hli hwt hd K hK
            clear hd
            obtain ⟨hc, hm, ha, hs⟩ := hj
            have lopr : L_ 7 = true := hwt ⟨7, .data⟩ (by simp) rfl
            rcases hm with ⟨n37, n30, n38, n39, n40, n12, ns, hF⟩ | ⟨l37, ov, v', e37, q30, q38, q39, q40, q12, hp⟩
            · rw [n30] at lopr; cases lopr
            · have eo := q30 lopr
              have HPH : Hid _ := hp
              clear hp
              simp only [eo, e37] at hK ⊢
              go_simp
              exact hK.out _ _ ⟨hc, .inr ⟨l37, ov, v', e37, q30, (fun _ => rfl), q39, q40, q12, HPH.out⟩, ha, hs⟩ trivial
          · show StepWS _ _ _ _ _ _ _ _ _ -- 39
            unfold StepWS
            intro L_ u w_ hj hli hwt hd K hK
            clear hd
            obtain ⟨hc, hm, ha, hs⟩ := hj
            have lopr : L_ 7 = true := hwt ⟨7, .data⟩ (by simp) rfl
            rcases hm with ⟨n37, n30, n38, n39, n40, n12, ns, hF⟩ | ⟨l37, ov, v', e37, q30, q38, q39, q40, q12, hp⟩
            · rw [n30] at lopr; cases lopr
            · have eo := q30 lopr
              have HPH : Hid _ := hp
              clear hp
              simp only [eo, e37] at hK ⊢
              go_simp
              exact hK.out _ _ ⟨hc, .inr ⟨l37, ov, v', e37, q30, q38, (fun _ => rfl), q40, q12, HPH.out⟩, ha, hs⟩ trivial
          · show StepWS _ _ _ _ _ _ _ _ _ -- 40
            unfold StepWS
            intro L_ u w_ hj hli hwt hd K hK
            clear hd
            obtain ⟨hc, hm, ha, hs⟩ := hj
            have lopr : L_ 7 = true := hwt ⟨7, .data⟩ (by simp) rfl
            rcases hm with ⟨n37, n30, n38, n39, n40, n12, ns, hF⟩ | ⟨l37, ov, v', e37, q30, q38, q39, q40, q12, hp⟩
            · rw [n30] at lopr; cases lopr
            · have eo := q30 lopr
              have HPH : Hid _ := hp
              clear hp
              simp only [eo, e37] at hK ⊢
              go_simp
              exact hK.out _ _ ⟨hc, .inr ⟨l37, ov, v', e37, q30, q38, q39, (fun _ => rfl), q12, HPH.out⟩, ha, hs⟩ trivial
          · show StepWS _ _ _ _ _ _ _ _ _ -- 13
            unfold StepWS
            intro L_ u w_ hj hli hwt hd K hK
            clear hd
            obtain ⟨hc, hm, ha, hs⟩ := hj
            have nal_ : L_ 11 ≠ true := by rw [hli]; decide
            have nst_ : ¬ L_ 13 = true := fun e => nal_ (hs e)
            have c2 := chg_one w_ (.cells #[.int .i64 0, .int .i64 0, .int .i64 0, .int .i64 0, .int .i64 0] 52)
            rcases hm with ⟨n37, n30, n38, n39, n40, n12, ns, hF⟩ | ⟨l37, ov, v', e37, q30, q38, q39, q40, q12, hp⟩
            · go_simp
              refine hK.out _ _ ⟨hc.trans c2 (fun _ f => f.elim), .inl ⟨n37, n30, n38, n39, n40, n12, ns, chg_then hF c2⟩, fun _ => ⟨_, rfl, hc.size, ?_⟩, fun _ => rfl⟩ trivial
              show _ = some (Obj.cells (if L_ 13 = true then #[.int .i64 t.n, .int .i64 t.a, .int .i64 t.b, .int .i64 t.c, .int .i64 t.d] else #[.int .i64 0, .int .i64 0, .int .i64 0, .int .i64 0, .int .i64 0]) 52 (0, 0))
              rw [if_neg nst_]
              exact heap_alloc_last _ _
            · have c := c2
              have HP := (And.intro (hp.1.new rw_like c) hp.2)
              simp only [e37] at hK ⊢
              go_simp
              refine hK.out _ _ ⟨hc.trans c2 (fun _ f => f.elim), .inr ⟨l37, ov, v', e37, q30, q38, q39, q40, q12, HP⟩, fun _ => ⟨_, rfl, hc.size, ?_⟩, fun _ => rfl⟩ trivial
              show _ = some (Obj.cells (if L_ 13 = true then #[.int .i64 t.n, .int .i64 t.a, .int .i64 t.b, .int .i64 t.c, .int .i64 t.d] else #[.int .i64 0, .int .i64 0, .int .i64 0, .int .i64 0, .int .i64 0]) 52 (0, 0))
              rw [if_neg nst_]
              exact heap_alloc_last _ _
          · show StepWS _ _ _ _ _ _ _ _ _ -- 12
            unfold StepWS
            intro L_ u w_ hj hli hwt hd K hK
            clear hd
            obtain ⟨hc, hm, ha, hs⟩ := hj
            have lopr : L_ 8 = true := hwt ⟨8, .data⟩ (by simp) rfl
            rcases hm with ⟨n37, n30, n38, n39, n40, n12, ns, hF⟩ | ⟨l37, ov, v', e37, q30, q38, q39, q40, q12, hp⟩
            · rw [n38] at lopr; cases lopr
            · have eo := q38 lopr
              have HPH : Hid _ := hp
              clear hp
              simp only [eo, e37] at hK ⊢
              go_simp
              exact hK.out _ _ ⟨hc, .inr ⟨l37, ov, v', e37, q30, q38, q39, q40, (fun _ => rfl), HPH.out⟩, ha, hs⟩ trivial
          · show StepWS _ _ _ _ _ _ _ _ _ -- #13
            unfold StepWS
            intro L_ u w_ hj hli hwt hd K hK
            clear hd
            obtain ⟨hc, hm, ha, hs⟩ := hj
            have lal_ : L_ 11 = true := hwt ⟨11, .data⟩ (by simp) rfl
            have lopr : L_ 9 = true := hwt ⟨9, .data⟩ (by simp) rfl
            have nst_ : ¬ L_ 13 = true := by rw [hli]; decide
            rcases hm with ⟨n37, n30, n38, n39, n40, n12, ns, hF⟩ | ⟨l37, ov, v', e37, q30, q38, q39, q40, q12, hp⟩
            · rw [n39] at lopr; cases lopr
            · have eo := q39 lopr
              obtain ⟨b7, e7, hb7, hk7⟩ := ha lal_
              rw [if_neg nst_] at hk7
              obtain ⟨⟨p0, f0⟩, ⟨p1, f1⟩, ⟨p2, f2⟩, ⟨p3, f3⟩, ⟨p4, f4⟩, hblk, c⟩ := put5_of hk7 (.int .i64 t.n) (.int .i64 t.a) (.int .i64 t.b) (.int .i64 t.c) (.int .i64 t.d)
              have hb := hk7
              have HP : Hid _ := (And.intro (hp.1.off rw_like hb (by decide) (by decide) c) hp.2)
              have HL9 : Hid (L_ 11 = true) := lal_
              have HBK : Hid _ := hblk
              have HCH : Hid (Chg (Foot r v) W0 _) := hc.trans c (fun z e => .inr (by omega))
              have HQ : Hid _ := (And.intro l37 (And.intro e37 (And.intro q30 (And.intro q38 (And.intro q39 (And.intro q40 q12))))))
              clear lal_ nst_ ha hs hblk c hc  l37 e37 q30 q38 q39 q40 q12 hp hk7 hb
              simp only [e7, eo] at hK ⊢
              go_simp
              obtain ⟨l37, e37, q30, q38, q39, q40, q12⟩ := HQ.out
              exact hK.out undef _ ⟨HCH.out, .inr ⟨l37, ov, v', e37, q30, q38, q39, q40, q12, HP.out⟩, fun _ => ⟨b7, e7, hb7, HBK.out⟩, fun _ => HL9.out⟩ trivial
        · intro u w7 hj hA K hK
          obtain ⟨hc7, hm, ha, _⟩ := hj
          rcases hm with ⟨n37, _⟩ | ⟨_, ov, v', e37, _, q38, _, q40, q12, hp⟩
          · cases n37
          have e12 : u 12 = ov := q12 rfl
          have e40 : u 40 = .int .i64 er := q40 rfl
          obtain ⟨b7, e13, hb7, hk7⟩ := ha rfl
          rw [if_pos rfl] at hk7
          obtain ⟨hx7, hne⟩ := HX.out.made rw_like (by decide) (by decide) hp.1 hc7 hp.2 (Nat.le_refl _)
          have HX7 : Hid _ := hx7
          have HNE : Hid _ := hne
          have HOV : Hid _ := hp.1.out
          have HAPT : Hid _ := hp.1.apart
          have HK7 : Hid _ := hk7
          have HB7 : Hid _ := hb7
          have HLO : Hid (∀ z, ov.ownBlock = some z → W0.heap.size ≤ z) := fun z e => (World.ownsRow.lt hp.1.out z e).1
          have HG9 : Hid (g9 < W0.heap.size) := lt_of_blk HX.out.st
          clear hA hc7 e37 q38 q40 q12 hp ha hb7 hk7 hx7 hne HX HST HNF HLT
          simp only [e12, e13, e40]
          go_simp
          refine hK.out _ _ ?_
          clear hK e12 e13 e40
          by_cases he : er = 0
          · subst he
            obtain ⟨m, hm⟩ : ∃ m, xs.length = m := ⟨_, rfl⟩
            have HXM : Hid (xs.length = m) := hm
            have HXL : Hid (m ≤ 273) := by
              have h9 := app_len_le n bs s y
              rw [HAP.out] at h9
              show _ ≤ _
              simp only at h9
              omega
            have HOV' : Hid (w7.ownsRow W0.heap.size 5 1 ov m (ins .u8 (nums xs))) := by rw [← hm]; exact HOV.out
            clear hm HOV
            obtain ⟨oa, oc, hov⟩ := form1 HOV'.out
            subst hov
            obtain ⟨x0, x1, x2, x3, x4⟩ := cells5 HK7.out
            have hst : w7.heap[g9]? = some (.cells #[.int .i64 s.n, .int .i64 s.a, .int .i64 s.b, .int .i64 s.c, .int .i64 s.d] 52 (0, 0)) := HX7.out.st
            obtain ⟨⟨p0, f0⟩, ⟨p1, f1⟩, ⟨p2, f2⟩, ⟨p3, f3⟩, ⟨p4, f4⟩, hblk, hchg⟩ := put5_of hst (.int .i64 t.n) (.int .i64 t.a) (.int .i64 t.b) (.int .i64 t.c) (.int .i64 t.d)
            have HX8 : Hid _ := HX7.out.store (s' := t) rw_like (by decide) (by decide) hchg hblk
            have HO8 : Hid _ := ownsRow_keep HOV'.out hchg (fun z e => own_off HOV'.out hst (by decide) z e)
            have HRN2 : Hid (runA n [] st0 (l.take (i + 1)) = some (bs ++ xs, t)) := by
              have h9 := run_next HRN.out HYI.out (by rw [HAP.out])
              rw [HAP.out] at h9
              exact h9
            clear hst hblk hchg HX7 HOV' HK7 HB7 HLO HNE HAPT HG9 HRN HAP
            go_upto_region 13 with fail
            generalize ((((w7.setCell ⟨g9, 0, none⟩ (.int .i64 t.n)).setCell ⟨g9, 1, none⟩ (.int .i64 t.a)).setCell ⟨g9, 2, none⟩ (.int .i64 t.b)).setCell ⟨g9, 3, none⟩ (.int .i64 t.c)).setCell ⟨g9, 4, none⟩ (.int .i64 t.d) = W8 at *
            have hown : W8.ownsRow w0.heap.size 5 1 (.slice aa bL ca) bL (ins .u8 (nums bs)) := by have h9 := HX8.out.all; rw [HBE.out] at h9; exact h9
            have hsrc := (row8_own HO8.out).src
            have hone := one8 xs
            have hB8 : w0.heap.size ≤ W8.heap.size := HX8.out.chg.size
            have hbl : bL ≤ 273 * 4194304 := by rw [← HBE.out]; exact HBL.out
            have hml := HXL.out
            clear x0 x1 x2 x3 x4 p0 f0 p1 f1 p2 f2 p3 f3 p4 f4
            go_wp2_with (at_builtin; refine wpList_append_moved rfl _ _ 24 rfl w0.heap.size 5 iu (.int .u8 0) 1 1 Tryd.underlying24 hiu hu0 hu1 hu2 rfl (by decide) _ bL (ins .u8 (nums bs)) rfl oa m oc rfl ((nums xs).map (Value.int .u8)) hown hsrc hone (by unfold maxLen; omega) (by omega) hB8 ?_)
            intro v9 w9 ho9 hg9 hm9
            obtain ⟨a9, d9, hv9⟩ := form1 ho9
            subst hv9
            have c9 : Chg (fun z => (Value.slice aa bL ca).ownBlock = some z) W8 w9 := (Chg.refl _ W8).grown hg9 (fun z e => .inl e)
            have HX9 : Hid (Ex Rw 52 w0 w9 r n v' (bs ++ xs) g9 t (.slice a9 (bL + m) d9) (bs ++ xs)) := HX8.out.grow rw_like (by decide) c9 (by rw [List.length_append, HBE.out, HXM.out]; exact own_app ho9) hm9
            have HLL : Hid ((bs ++ xs).length = bL + m) := by show _ = _; rw [List.length_append, HBE.out, HXM.out]
            clear ho9 hg9 hm9 c9 hown hsrc hone HX8 HO8 hB8
            go_wp2_with fail
            exact ⟨⟨i + 1, bL + m, d9, a9, v', bs ++ xs, t, by omega, rfl, by go_num, HLL.out, HRN2.out, HX9.out⟩, by simp [intOf]; omega⟩
          · have q0 : (er == 0) = false := by rw [beq_eq_false_iff_ne]; exact he
            have q0' : (er != 0) = true := by simp [he]
            have q0'' : decide (er = 0) = false := decide_eq_false he
            have HFE : Hid (exp n [] st0 0 l = ([], i, er)) := by
              have h9 := exp_take HRN.out HYI.out (by rw [HAP.out]; exact he)
              rw [HAP.out] at h9
              exact h9
            have HCE : Hid _ := HX7.out.chg
            clear HX7 HNE HOV HAPT HK7 HB7 HLO
            go_wp2
            go_ret3
            rw [HA.out, HFE.out]
            exact ⟨_, rfl, World.ownsRow_nil _ _ _ _, HCE.out⟩
      · have hd1 : decide ((i : Int) < (len : Int)) = false := by simp; omega
        have hd1' : decide (i < len) = false := decide_eq_false hlt
        have HFE : Hid (exp n [] st0 0 l = (bs, len, 0)) := by
          have h9 := exp_run 0 HI.out.2.1
          rw [List.take_of_length_le (by have := HLN.out; omega), Nat.zero_add] at h9
          rw [HLN.out] at h9
          exact h9
        have HX : Hid (Ex Rw 52 w0 wr r n v bs g9 s (.slice aa bL ca) bs) := HI.out.2.2
        clear HI
        go_wp2
        go_ret3
        rw [HA.out, HFE.out]
        exact ⟨_, rfl, HX.out.all, HX.out.chg⟩
end Go.Proofs.YtlnocjicmofjfaaDoor
