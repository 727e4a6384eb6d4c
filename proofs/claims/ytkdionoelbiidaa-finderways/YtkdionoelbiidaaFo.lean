/- FinderWays; of no statement by itself. -/
import Derived.Test.YtkdionoelbiidaaFn
import Derived.Test.YtkdionoelbiidaaRp
import Derived.Test.YtkdionoelbiidaaLastQ
import Derived.Laws.EntriesVeiled
namespace Go.Proofs.Ytkdionoelbiidaa
open Go.RowKit
set_option linter.unusedVariables false
attribute [local go_sem] Oper.semAt_some
variable {Γ : Type} {le : Γ → Γ → Prop} {foot : Γ → Nat → Prop} {mp : Γ → Nat} {Fin : Γ → World → Nat → Nat → List Nat → Nat → Nat → Prop} {Sq : World → Value → (Nat → Prop) → Nat → Int → Prop}

/-- A list of numbers in memory. -/
def IntL (w : World) (a : Option Addr) (l : List Int) : Prop := ∀ (k : Nat) (n : Int), l[k]? = some n → I64 n ∧ ∃ b off, a = some ⟨b, off, none⟩ ∧ w.cell? ⟨b, off + k, none⟩ = some (.int .i64 n)
theorem IntL.new {w w' : World} {a : Option Addr} {l : List Int} (h : IntL w a l) (hc : Chg (fun _ => False) w w') : IntL w' a l := fun k s hk => by
  obtain ⟨hI, b, off, e, h0⟩ := h k s hk
  exact ⟨hI, b, off, e, cell_chg h0 hc⟩
theorem on_cons {x : Nat × TypeId × Value} {l : BoxL} {z : Nat} (h : On (x :: l) z) : z = x.1 ∨ On l z := by
  obtain ⟨i, e, h1, rfl⟩ := h
  rcases i with _ | i
  · simp at h1; exact .inl (by rw [h1])
  · exact .inr ⟨i, e, by simpa using h1, rfl⟩
theorem on_nil {z : Nat} (h : On [] z) : False := by
  obtain ⟨i, e, h1, _⟩ := h
  simp at h1
/-- The last region under way. -/
def WyJ (U : World) (ms : List (Nat × Nat)) (Lm : Nat) : Nat → Value → World → Prop
  | 6, x, w => Chg (fun _ => False) U w ∧ ∃ a1 d1, x = .slice a1 Lm d1 ∧ MRow w a1 ms
  | _, _, w => Chg (fun _ => False) U w
theorem wyj_chg {U w : World} {ms : List (Nat × Nat)} {Lm n : Nat} {x : Value} (h : WyJ U ms Lm n x w) : Chg (fun _ => False) U w := by
  unfold WyJ at h
  split at h
  · exact h.1
  · exact h

set_option maxHeartbeats 16000000 in
set_option maxRecDepth 100000 in
theorem ways_any (S : FinSpec le foot mp Fin Sq) (ad : Option Addr) (L c : Nat) (d : List Nat) (sa : Option Addr) (Z sc : Nat) (steps : List Int) (stop : Int) (w0 : World) (hr : Row8 w0 ad L c (nums d)) (hdig : Rc.Dig d) (hLc : L ≤ c) (hL : L ≤ 140737488351232) (hst : IntL w0 sa steps) (hZ : steps.length = Z) (hZ9 : Z ≤ 9223372036854775807) (hsi : I64 stop) : Calls Try.prog 5 #[.slice ad L c, .slice sa Z sc, .int .i64 stop] w0 fun e w' => e = .returned (.bool true) ∧ Chg (fun _ => False) w0 w' := by
  have hdl : d.length = L := by have := hr.1; rw [nums_len] at this; exact this
  have HDL : Hid (d.length = L) := hdl
  have HN : Hid (∀ w, Chg (fun _ => False) w0 w → Calls Try.prog 8 #[.slice ad L c, .int .i64 4096] w fun e w' => ∃ γ a, e = .returned (.tuple #[.pointer (some ⟨a, 0, none⟩), .int .i64 0]) ∧ Fin γ w' w.heap.size a d 4096 0 ∧ Chg (fun _ => False) w w') := fun w hc => S.newIn ad L c d 4096 w (Bk.row8_chg hr hc) hdig hLc (by omega) (by omega) (by omega)
  have HST : Hid (IntL w0 sa steps) := hst
  have HZ : Hid (steps.length = Z) := hZ
  have hne := pF_ne
  have hLi : (L : Int) ≤ 140737488351232 := by omega
  clear hr hst hZ hdl
  refine callsIn_wide (n := 0).1 (callsIn_of_wp_marks Try.func5 rfl trivial (wpIn_wide.2 ?_))
  simp only [Try.ntmps5, List.size_toArray, List.length_cons, List.length_nil, Nat.reduceAdd, Nat.reduceSub, Array.replicate_succ, Array.replicate_zero, List.push_toArray, List.append_toArray, List.nil_append, List.cons_append]
  go_wp2_with fail
  have cA : Chg (fun _ => False) w0 ((w0.alloc (.cells #[.int .i64 stop] 3)).alloc (.cells #[.bool false] 4)) := ((Chg.refl _ w0).alloc _).alloc _
  have HBA : Hid (Boxes ((w0.alloc (.cells #[.int .i64 stop] 3)).alloc (.cells #[.bool false] 4)) [(w0.heap.size, 3, .int .i64 stop), (w0.heap.size + 1, 4, .bool false)]) := by
    have := ((Boxes.nil w0).add 3 (.int .i64 stop)).add 4 (.bool false)
    rw [World.size_alloc] at this
    exact this
  refine (HN.out _ cA).mono ?_
  rintro z w1 ⟨γ0, a, rfl, hf1, c1⟩
  simp only [World.size_alloc] at hf1
  have HF1 : Hid (Fin γ0 w1 (w0.heap.size + 1 + 1) a d 4096 0) := hf1
  have HC1 : Hid (Chg (fun _ => False) w0 w1) := chg_then cA c1
  have HB1 : Hid (Boxes w1 [(w0.heap.size, 3, .int .i64 stop), (w0.heap.size + 1, 4, .bool false)]) := HBA.out.keep c1 (fun _ _ f => f)
  clear hf1 c1 cA HBA
  go_wp2_with fail
  have cB := chg_one w1 (.cells #[.pointer (some ⟨a, 0, none⟩)] 23)
  refine (HN.out _ (chg_then HC1.out cB)).mono ?_
  rintro z w2 ⟨δ0, b, rfl, hf2, c2⟩
  simp only [World.size_alloc] at hf2
  have HW2 : Hid (WB Fin foot w0 γ0 δ0 a b d 0 0 [(w0.heap.size, 3, .int .i64 stop), (w0.heap.size + 1, 4, .bool false), (w1.heap.size, 23, .pointer (some ⟨a, 0, none⟩))] w2) := by
    have s1 := HC1.out.size
    have s2 := (HB1.out.lt ⟨1, _, rfl, rfl⟩)
    have f2 := S.new (S.new HF1.out cB) c2
    refine ⟨(HB1.out.add 23 (.pointer (some ⟨a, 0, none⟩))).keep c2 (fun _ _ f => f), ⟨S.down f2 (by omega), S.down hf2 (by omega), fun z f g => ?_, chg_then (chg_then HC1.out cB) c2⟩, fun z f => ?_, fun z f => ?_⟩
    · have e1 := (S.lt HF1.out z f).2
      have e2 := (S.lt hf2 z g).1
      omega
    · rcases on_cons f with e | f
      · simp only at e; omega
      rcases on_cons f with e | f
      · simp only at e; omega
      rcases on_cons f with e | f
      · simp only at e; omega
      · exact (on_nil f).elim
    · have k : z = w0.heap.size ∨ z = w0.heap.size + 1 ∨ z = w1.heap.size := by
        rcases on_cons f with e | f
        · exact .inl e
        rcases on_cons f with e | f
        · exact .inr (.inl e)
        rcases on_cons f with e | f
        · exact .inr (.inr e)
        · exact (on_nil f).elim
      simp only at s2
      exact ⟨fun g => by have := S.lt HF1.out z g; omega, fun g => by have := S.lt hf2 z g; omega⟩
  have hb7 : w0.heap.size + 1 < w1.heap.size := (HB1.out.lt ⟨1, _, rfl, rfl⟩)
  obtain ⟨kc7, _⟩ := HW2.out.bxs.get 2 rfl
  clear hf2 c2 cB HF1 HC1 HB1 HN
  generalize w1.heap.size = b7 at *
  go_wp2_with fail
  refine (num_any _ _).mono ?_
  rintro z w3 ⟨rfl, rfl⟩
  go_wp2_with fail
  refine (num_any _ _).mono ?_
  rintro z w3 ⟨rfl, rfl⟩
  go_wp2_with fail
  clear kc7
  go_loopw [11, 53] (fun vp vi wr => ∃ (i p : Nat) (γ : Γ), i ≤ Z ∧ p ≤ L ∧ vi = .int .i64 (i : Int) ∧ vp = .int .i64 (p : Int) ∧ Hid (WB Fin foot w0 γ δ0 a b d p 0 [(w0.heap.size, 3, .int .i64 stop), (w0.heap.size + 1, 4, .bool false), (b7, 23, .pointer (some ⟨a, 0, none⟩))] wr)) (fun _ vi _ => Z - (intOf vi).toNat)
  case atStart => exact ⟨0, 0, γ0, Nat.zero_le _, Nat.zero_le _, rfl, rfl, HW2.out⟩
  case round =>
    clear HW2
    obtain ⟨i, p, γ, hi, hp, rfl, rfl, HW⟩ := hrel
    obtain ⟨kc7, _⟩ := HW.out.bxs.get 2 rfl
    by_cases hil : i < Z
    · have hd1 : decide (i < Z) = true := decide_eq_true hil
      obtain ⟨N, hs⟩ : ∃ s, steps[i]? = some s := ⟨_, List.getElem?_eq_getElem (by rw [HZ.out]; exact hil)⟩
      obtain ⟨hNi, bs, off, hsa, s0⟩ := (HST.out.new HW.out.two.chg) i N hs
      subst hsa
      clear hs
      by_cases hn0 : 0 ≤ N
      · obtain ⟨kn, rfl⟩ : ∃ kn : Nat, (kn : Int) = N := ⟨N.toNat, by omega⟩
        have hkb : (kn : Int) ≤ 9223372036854775807 := hNi.2
        have hg0 : decide ((0 : Int) ≤ (kn : Int)) = true := by simp
        by_cases hin : (kn : Int) ≤ (L : Int) - (p : Int)
        · have hg1 : decide ((kn : Int) ≤ (L : Int) - (p : Int)) = true := by simp; omega
          obtain ⟨P, hP⟩ : ∃ P, p + kn = P := ⟨_, rfl⟩
          have hPi : (p : Int) + (kn : Int) = (P : Int) := by omega
          have hPL : P ≤ L := by omega
          have HP : Hid (p + kn = P) := hP
          clear hP
          go_wp2_with fail
          refine (S.skipIn γ w0.heap.size a d 4096 p kn wr HW.out.two.f HW.out.two.chg.size (by have := HDL.out; omega)).mono ?_
          rintro z w4 ⟨rfl, γ2, hf, hn⟩
          rw [HP.out] at hn
          have HW4 : Hid (WB Fin foot w0 γ2 δ0 a b d P 0 [(w0.heap.size, 3, .int .i64 stop), (w0.heap.size + 1, 4, .bool false), (b7, 23, .pointer (some ⟨a, 0, none⟩))] w4) := HW.out.left S hf hn
          clear hf hn HW kc7 s0
          obtain ⟨kc7, _⟩ := HW4.out.bxs.get 2 rfl
          go_wp2_with fail
          refine (num_any _ _).mono ?_
          rintro z w5 ⟨rfl, rfl⟩
          go_wp2_with fail
          refine (S.best γ2 w0.heap.size a d 4096 P 273 w4 HW4.out.two.f (by unfold I64; omega)).mono ?_
          rintro z w6 ⟨rfl, c6⟩
          have HW6 : Hid (WB Fin foot w0 γ2 δ0 a b d P 0 [(w0.heap.size, 3, .int .i64 stop), (w0.heap.size + 1, 4, .bool false), (b7, 23, .pointer (some ⟨a, 0, none⟩))] w6) := HW4.out.new S c6
          clear c6 HW4 kc7
          go_wp2_with fail
          go_roundw
          case rel => exact ⟨i + 1, P, γ2, by omega, by omega, by go_num, rfl, HW6.out⟩
          case measure => simp [intOf]; omega
        · have hg1 : decide ((kn : Int) ≤ (L : Int) - (p : Int)) = false := by simp; omega
          go_wp2_with fail
          go_roundw
          case rel => exact ⟨i + 1, p, γ, by omega, by omega, by go_num, rfl, HW.out⟩
          case measure => simp [intOf]; omega
      · have hg0 : decide ((0 : Int) ≤ N) = false := by simp; omega
        go_wp2_with fail
        go_roundw
        case rel => exact ⟨i + 1, p, γ, by omega, by omega, by go_num, rfl, HW.out⟩
        case measure => simp [intOf]; omega
    · have hd1 : decide (i < Z) = false := decide_eq_false hil
      go_wp2_with fail
      refine (S.skipIn δ0 w0.heap.size b d 4096 0 p wr HW.out.two.g HW.out.two.chg.size (by have := HDL.out; omega)).mono ?_
      rintro z w4 ⟨rfl, δ, hf, hn⟩
      rw [Nat.zero_add] at hn
      have HW4 : Hid (WB Fin foot w0 γ δ a b d p p [(w0.heap.size, 3, .int .i64 stop), (w0.heap.size + 1, 4, .bool false), (b7, 23, .pointer (some ⟨a, 0, none⟩))] w4) := HW.out.right S hf hn
      clear hf hn HW kc7
      obtain ⟨kc7, _⟩ := HW4.out.bxs.get 2 rfl
      go_wp2_with fail
      refine (num_any _ _).mono ?_
      rintro z w5 ⟨rfl, rfl⟩
      go_wp2_with fail
      refine (S.pos γ w0.heap.size a d 4096 p w4 HW4.out.two.f).mono ?_
      rintro z w5 ⟨rfl, c5⟩
      have HW5 : Hid (WB Fin foot w0 γ δ a b d p p [(w0.heap.size, 3, .int .i64 stop), (w0.heap.size + 1, 4, .bool false), (b7, 23, .pointer (some ⟨a, 0, none⟩))] w5) := HW4.out.new S c5
      clear c5 HW4 kc7
      obtain ⟨kc7, _⟩ := HW5.out.bxs.get 2 rfl
      have hpp : ((p : Int) == (p : Int)) = true := by simp
      go_wp2_with fail
      refine (S.mats γ w0.heap.size a d 4096 p 273 w5 HW5.out.two.f (by unfold I64; omega)).mono ?_
      rintro z w6 ⟨v, sf, rfl, hsq, c6, hsf⟩
      obtain ⟨gf, lb, hv, heg, hit⟩ := S.iter hsq
      subst hv
      have HW6 : Hid (WB Fin foot w0 γ δ a b d p p [(w0.heap.size, 3, .int .i64 stop), (w0.heap.size + 1, 4, .bool false), (b7, 23, .pointer (some ⟨a, 0, none⟩))] w6) := HW5.out.new S c6
      have HSQ : Hid (Sq w6 (.func (.func gf) #[] lb) sf a 273) := hsq
      have HSF : Hid (∀ z, sf z → w5.heap.size ≤ z) := hsf
      have HIT : Hid (∀ (γ : Γ) (p : Nat), Iter Try.prog gf lb ((mat d 4096 p 273).map mval) (fun W => Fin γ W w0.heap.size a d 4096 p ∧ Sq W (.func (.func gf) #[] lb) sf a 273) (fun W => ∃ γ' p', le γ γ' ∧ Fin γ' W w0.heap.size a d 4096 p' ∧ Sq W (.func (.func gf) #[] lb) sf a 273)) := fun γ p => hit γ w0.heap.size d 4096 p
      have HEG : Hid (∀ args w, (callFunc gf args).run Try.prog w = .ok (.enter gf args) w) := heg
      obtain ⟨ms, hms⟩ : ∃ ms, mat d 4096 p 273 = ms := ⟨_, rfl⟩
      obtain ⟨Lm, hLm⟩ : ∃ Lm, ms.length = Lm := ⟨_, rfl⟩
      have HMS : Hid (mat d 4096 p 273 = ms) := hms
      have HLM : Hid (ms.length = Lm) := hLm
      have hLm32 : Lm ≤ 32 := by rw [← hLm, ← hms]; exact mat_len d 4096 p 273
      have hLmi : (Lm : Int) ≤ 32 := by omega
      have HAL : Hid (∀ W, Fin δ W w0.heap.size b d 4096 p → Calls Try.prog 12 #[.pointer (some ⟨b, 0, none⟩), .int .i64 273] W fun e w' => ∃ v, e = .returned v ∧ w'.ownsRow W.heap.size 30 2 v Lm (mcells ms) ∧ Chg (fun _ => False) W w') := fun W h => by
        have := all_any S δ w0.heap.size b d 4096 p 273 W h (by unfold I64; omega)
        rw [hms, hLm] at this
        exact this
      have s56 := c6.size
      have HB5 : Hid (Boxes w5 [(w0.heap.size, 3, .int .i64 stop), (w0.heap.size + 1, 4, .bool false), (b7, 23, .pointer (some ⟨a, 0, none⟩))]) := HW5.out.bxs
      have HG5 : Hid (∀ z, foot γ z → z < w5.heap.size) := fun z f => (S.lt HW5.out.two.f z f).2
      clear hit heg hsq hsf c6 hms hLm HW5 kc7
      go_wp2_with fail
      refine (HAL.out _ HW6.out.two.g).mono ?_
      rintro z w7 ⟨v7, rfl, ho7, c7⟩
      obtain ⟨wa, wc, hv7⟩ := formN ho7
      subst hv7
      obtain ⟨Ns, hNs0⟩ : ∃ Ns : Nat → Prop, Ns = fun _ => False := ⟨_, rfl⟩
      have HS7 : Hid (WS Fin Sq foot w0 γ δ a b d p p (.func (.func gf) #[] lb) sf Ns wa ms [(w0.heap.size, 3, .int .i64 stop), (w0.heap.size + 1, 4, .bool false), (b7, 23, .pointer (some ⟨a, 0, none⟩))] w7) := by
        refine ⟨HW6.out.new S c7, mrow_own ho7, S.sqNew HSQ.out c7, fun z f => ?_⟩
        have s67 := c7.size
        have kz : w5.heap.size ≤ z ∧ z < w7.heap.size := by
          rcases f with f | f | f
          · obtain ⟨cs, t, fz, e⟩ := S.sqLt HSQ.out z f
            have := lt_of_blk e
            exact ⟨HSF.out z f, by omega⟩
          · rw [hNs0] at f; exact f.elim
          · subst f
            have := ho7.lt z rfl
            exact ⟨by omega, this.2⟩
        exact ⟨kz.2, fun g => by have := HG5.out z g; omega, fun g => by have := HB5.out.lt g; omega⟩
      have hnil := func_nil gf lb
      have hbw : b7 < w7.heap.size := HS7.out.wb.bxs.lt ⟨2, _, rfl, rfl⟩
      clear ho7 c7 s56 HW6 HSQ HSF HB5 HG5 hNs0
      have HS8 : Hid (WS Fin Sq foot w0 γ δ a b d p p (.func (.func gf) #[] lb) sf Ns wa ms [(w0.heap.size, 3, .int .i64 stop), (w0.heap.size + 1, 4, .bool false), (b7, 23, .pointer (some ⟨a, 0, none⟩)), (w7.heap.size, 42, .func (.func gf) #[] lb), (w7.heap.size + 1, 32, .slice wa Lm wc), (w7.heap.size + 1 + 1, 3, .int .i64 0), (w7.heap.size + 1 + 1 + 1, 3, .int .i64 0)] ((((w7.alloc (.cells #[.func (.func gf) #[] lb] 42)).alloc (.cells #[.slice wa Lm wc] 32)).alloc (.cells #[.int .i64 0] 3)).alloc (.cells #[.int .i64 0] 3))) := by
        have := (((HS7.out.add S 42 (.func (.func gf) #[] lb)).add S 32 (.slice wa Lm wc)).add S 3 (.int .i64 0)).add S 3 (.int .i64 0)
        simp only [World.size_alloc] at this
        exact this
      clear HS7
      go_wp2_with fail
      generalize (((w7.alloc (.cells #[.func (.func gf) #[] lb] 42)).alloc (.cells #[.slice wa Lm wc] 32)).alloc (.cells #[.int .i64 0] 3)).alloc (.cells #[.int .i64 0] 3) = W1 at *
      generalize w7.heap.size = B at *
      have HM8 : Hid (mp γ < W1.heap.size ∧ mp δ < W1.heap.size ∧ w0.heap.size ≤ W1.heap.size) := ⟨(S.mpLt HS8.out.wb.two.f).2, (S.mpLt HS8.out.wb.two.g).2, HS8.out.wb.two.chg.size⟩
      have HIT1 : Hid _ := HIT.out γ p
      rw [HMS.out] at HIT1
      refine wpIn_wide.1 (wp_rangeT (gf := gf) (lb := lb) rfl HEG.out HIT1.out rfl (.exit 2)
        Ns (fun Ns k W => ∃ mi : Nat, mi = min k 2 * Lm ∧ WS Fin Sq foot w0 γ δ a b d p p (.func (.func gf) #[] lb) sf Ns wa ms [(w0.heap.size, 3, .int .i64 stop), (w0.heap.size + 1, 4, .bool false), (b7, 23, .pointer (some ⟨a, 0, none⟩)), (B, 42, .func (.func gf) #[] lb), (B + 1, 32, .slice wa Lm wc), (B + 1 + 1, 3, .int .i64 (k : Int)), (B + 1 + 1 + 1, 3, .int .i64 (mi : Int))] (W)) (fun Ns k W => (k : Int) = stop ∧ (∃ mi : Nat, mi = min k 2 * Lm ∧ WS Fin Sq foot w0 γ δ a b d p p (.func (.func gf) #[] lb) sf Ns wa ms [(w0.heap.size, 3, .int .i64 stop), (w0.heap.size + 1, 4, .bool false), (b7, 23, .pointer (some ⟨a, 0, none⟩)), (B, 42, .func (.func gf) #[] lb), (B + 1, 32, .slice wa Lm wc), (B + 1 + 1, 3, .int .i64 (k : Int)), (B + 1 + 1 + 1, 3, .int .i64 (mi : Int))] (W)))
        (fun T Ns k a₁ W => ∃ bx m, ms[k]? = some m ∧ (∃ mi : Nat, mi = min k 2 * Lm ∧ WS Fin Sq foot w0 γ δ a b d p p (.func (.func gf) #[] lb) sf Ns wa ms [(w0.heap.size, 3, .int .i64 stop), (w0.heap.size + 1, 4, .bool false), (b7, 23, .pointer (some ⟨a, 0, none⟩)), (B, 42, .func (.func gf) #[] lb), (B + 1, 32, .slice wa Lm wc), (B + 1 + 1, 3, .int .i64 (k : Int)), (B + 1 + 1 + 1, 3, .int .i64 (mi : Int))] (W)) ∧ W.heap[bx]? = some (.cells #[.int .i64 (m.1 : Int), .int .i64 (m.2 : Int)] 30 (0, 0)) ∧ a₁ = { tmps := (T.setIfInBounds 96 (mval m)).setIfInBounds 18 (.pointer (some ⟨bx, 0, none⟩)), defers := [] })
        (fun Ns k W W' h hc => by
          obtain ⟨mi, h1, h2⟩ := h
          exact ⟨mi, h1, h2.turn S hc HM8.out.2.2 HM8.out.1 HM8.out.2.1⟩)
        (fun Ns k W W' h hc => by
          obtain ⟨h0, mi, h1, h2⟩ := h
          exact ⟨h0, mi, h1, h2.turn S hc HM8.out.2.2 HM8.out.1 HM8.out.2.1⟩)
        (fun Ns k a₁ W W' h hc => by
          obtain ⟨bx, m, h1, ⟨mi, h2, h3⟩, h4, h5⟩ := h
          exact ⟨bx, m, h1, ⟨mi, h2, h3.turn S hc HM8.out.2.2 HM8.out.1 HM8.out.2.1⟩, hc.cells h4, h5⟩)
        (fun Ns Ns' X Y h hc g1 g2 g3 => by
          obtain ⟨mi, h1, h2⟩ := h
          exact ⟨mi, h1, h2.more S hc g2 g3⟩)
        (fun z f => (HS8.out.off z (.inr (.inl f))).1)
        (fun Ns W h => by
          obtain ⟨mi, h1, h2⟩ := h
          exact ⟨h2.wb.two.f, h2.sq⟩)
        (fun Ns k W h => by
          obtain ⟨mi, h1, h2⟩ := h
          exact ⟨γ, p, S.refl γ, h2.wb.two.f, h2.sq⟩)
        ⟨0, by simp, HS8.out⟩ ?assign ?body ?exits ?done)
      case assign =>
        rintro Ns l k hk W ⟨mi, hmi, hA⟩ K hK
        have hkm : k < ms.length := by simpa using hk
        have hv : (ms.map mval)[k] = mval ms[k] := by simp
        rw [hv]
        unfold mval
        have HA : Hid (WS Fin Sq foot w0 γ δ a b d p p (.func (.func gf) #[] lb) sf Ns wa ms [(w0.heap.size, 3, .int .i64 stop), (w0.heap.size + 1, 4, .bool false), (b7, 23, .pointer (some ⟨a, 0, none⟩)), (B, 42, .func (.func gf) #[] lb), (B + 1, 32, .slice wa Lm wc), (B + 1 + 1, 3, .int .i64 (k : Int)), (B + 1 + 1 + 1, 3, .int .i64 (mi : Int))] (W)) := hA
        clear hA
        gi_wp2
        exact hK _ _ ⟨W.heap.size, ms[k], List.getElem?_eq_getElem hkm, ⟨mi, hmi, HA.out.new S (chg_one _ _)⟩, heap_alloc_last _ _, by simp only [mval, List.setIfInBounds_toArray, List.set_cons_succ, List.set_cons_zero]⟩ (Calm.new (chg_one _ _))
      case body =>
        rintro Ns l k hk a₁ W hBl hrec ⟨bx, m, hmk, ⟨mi, hmi, hA⟩, hbx, rfl⟩
        simp only [List.setIfInBounds_toArray, List.set_cons_succ, List.set_cons_zero]
        have hkm : k < ms.length := by simpa using hk
        have hkL : k < Lm := by have := HLM.out; omega
        obtain ⟨kc15, _⟩ := hA.get 4 rfl
        obtain ⟨kc16, _⟩ := hA.get 5 rfl
        have hc7a := cell0 hbx
        have hc7b := cell1 hbx
        obtain ⟨g, hwg, x1, x2⟩ := hA.row k m hmk
        subst hwg
        have hge : decide ((Lm : Int) ≤ (k : Int)) = false := by simp; omega
        have hge' : decide (Lm ≤ k) = false := by simp; omega
        have hki : (k : Int) ≤ 32 := by omega
        have HA : Hid (WS Fin Sq foot w0 γ δ a b d p p (.func (.func gf) #[] lb) sf Ns (some ⟨g, 0, none⟩) ms [(w0.heap.size, 3, .int .i64 stop), (w0.heap.size + 1, 4, .bool false), (b7, 23, .pointer (some ⟨a, 0, none⟩)), (B, 42, .func (.func gf) #[] lb), (B + 1, 32, .slice (some ⟨g, 0, none⟩) Lm wc), (B + 1 + 1, 3, .int .i64 (k : Int)), (B + 1 + 1 + 1, 3, .int .i64 (mi : Int))] (W)) := hA
        unfold mval
        clear hA hmk
        gi_wp2
        refine wpIn_region_quiet (by kernel_rfl) (by kernel_rfl) (by kernel_rfl) (by rintro ⟨_, _, hh⟩; exact hh) ?_
        repeat (quiet_step (fail))
        refine wpQuiet_nil ?_
        rintro _ ⟨nq, rfl⟩
        have cQ := chg_drewN W nq
        have HA1 : Hid (WS Fin Sq foot w0 γ δ a b d p p (.func (.func gf) #[] lb) sf Ns (some ⟨g, 0, none⟩) ms [(w0.heap.size, 3, .int .i64 stop), (w0.heap.size + 1, 4, .bool false), (b7, 23, .pointer (some ⟨a, 0, none⟩)), (B, 42, .func (.func gf) #[] lb), (B + 1, 32, .slice (some ⟨g, 0, none⟩) Lm wc), (B + 1 + 1, 3, .int .i64 (k : Int)), (B + 1 + 1 + 1, 3, .int .i64 (mi : Int))] (W.drewN nq)) := HA.out.new S cQ
        have HCM : Hid (Calm Ns W1.heap.size W (W.drewN nq)) := Calm.new cQ
        clear cQ kc15 kc16 x1 x2 hc7a hc7b HA hbx
        generalize W.drewN nq = Wb at *
        obtain ⟨kc16, kf16⟩ := HA1.out.get 5 rfl
        have HA2 : Hid (WS Fin Sq foot w0 γ δ a b d p p (.func (.func gf) #[] lb) sf Ns (some ⟨g, 0, none⟩) ms [(w0.heap.size, 3, .int .i64 stop), (w0.heap.size + 1, 4, .bool false), (b7, 23, .pointer (some ⟨a, 0, none⟩)), (B, 42, .func (.func gf) #[] lb), (B + 1, 32, .slice (some ⟨g, 0, none⟩) Lm wc), (B + 1 + 1, 3, .int .i64 ((k : Int) + 1)), (B + 1 + 1 + 1, 3, .int .i64 (mi : Int))] (Wb.setCell ⟨B + 1 + 1, 0, none⟩ (.int .i64 ((k : Int) + 1)))) := HA1.out.set S 5 rfl _
        have HCM2 : Hid (Calm Ns W1.heap.size W (Wb.setCell ⟨B + 1 + 1, 0, none⟩ (.int .i64 ((k : Int) + 1)))) := HCM.out.trans (HA1.out.calm 5 rfl _ _)
        obtain ⟨kd14, _⟩ := HA2.out.get 3 rfl
        obtain ⟨kd16, _⟩ := HA2.out.get 5 rfl
        obtain ⟨kd5, _⟩ := HA2.out.get 0 rfl
        clear HA1 HCM
        by_cases hk3 : k + 1 < 3
        · have hb3 : decide ((k : Int) + 1 < 3) = true := by simp; omega
          have hb3' : decide (k + 1 < 3) = true := by simp; omega
          have hmk2 : mi = k * Lm := by rw [hmi, Nat.min_eq_left (by omega)]
          have hm2 : mi + Lm ≤ 2 * Lm := by
            have : (k + 1) * Lm ≤ 2 * Lm := Nat.mul_le_mul_right _ (by omega)
            rw [Nat.add_mul, Nat.one_mul] at this
            omega
          have HMOD : Hid (∀ j, j < Lm → (mi + j) % Lm = j) := fun j hj => by rw [hmk2, Nat.mul_comm, Nat.mul_add_mod, Nat.mod_eq_of_lt hj]
          have HMI : Hid (mi + Lm = min (k + 1) 2 * Lm) := by show _ = _; rw [hmk2, Nat.min_eq_left (by omega), Nat.add_mul, Nat.one_mul]
          gi_wp2
          obtain ⟨r, hr⟩ := hrec
          have hl2 := Calm.keep HCM2.out hBl hr rfl
          have HC0 : Hid (W.heap.size ≤ (Wb.setCell ⟨B + 1 + 1, 0, none⟩ (.int .i64 ((k : Int) + 1))).heap.size) := HCM2.out.size
          have HM2 : Hid (mp γ < (Wb.setCell ⟨B + 1 + 1, 0, none⟩ (.int .i64 ((k : Int) + 1))).heap.size ∧ mp δ < (Wb.setCell ⟨B + 1 + 1, 0, none⟩ (.int .i64 ((k : Int) + 1))).heap.size ∧ w0.heap.size ≤ (Wb.setCell ⟨B + 1 + 1, 0, none⟩ (.int .i64 ((k : Int) + 1))).heap.size) := ⟨(S.mpLt HA2.out.wb.two.f).2, (S.mpLt HA2.out.wb.two.g).2, HA2.out.wb.two.chg.size⟩
          clear hmk2 hmi hr kd14 kd16 kd5 kc16 kf16
          generalize Wb.setCell ⟨B + 1 + 1, 0, none⟩ (.int .i64 ((k : Int) + 1)) = W2 at *
          refine wp_rangeT_in hl2 (gf := gf) (lb := lb) rfl HEG.out HIT1.out rfl
            Ns (fun Ns j V => Calm Ns W1.heap.size W V ∧ WS Fin Sq foot w0 γ δ a b d p p (.func (.func gf) #[] lb) sf Ns (some ⟨g, 0, none⟩) ms [(w0.heap.size, 3, .int .i64 stop), (w0.heap.size + 1, 4, .bool false), (b7, 23, .pointer (some ⟨a, 0, none⟩)), (B, 42, .func (.func gf) #[] lb), (B + 1, 32, .slice (some ⟨g, 0, none⟩) Lm wc), (B + 1 + 1, 3, .int .i64 ((k : Int) + 1)), (B + 1 + 1 + 1, 3, .int .i64 ((mi + j : Nat) : Int))] (V))
            (fun T Ns j a₁ V => ∃ bx2 m2, ms[j]? = some m2 ∧ (Calm Ns W1.heap.size W V ∧ WS Fin Sq foot w0 γ δ a b d p p (.func (.func gf) #[] lb) sf Ns (some ⟨g, 0, none⟩) ms [(w0.heap.size, 3, .int .i64 stop), (w0.heap.size + 1, 4, .bool false), (b7, 23, .pointer (some ⟨a, 0, none⟩)), (B, 42, .func (.func gf) #[] lb), (B + 1, 32, .slice (some ⟨g, 0, none⟩) Lm wc), (B + 1 + 1, 3, .int .i64 ((k : Int) + 1)), (B + 1 + 1 + 1, 3, .int .i64 ((mi + j : Nat) : Int))] (V)) ∧ V.heap[bx2]? = some (.cells #[.int .i64 (m2.1 : Int), .int .i64 (m2.2 : Int)] 30 (0, 0)) ∧ a₁ = { tmps := (T.setIfInBounds 114 (mval m2)).setIfInBounds 19 (.pointer (some ⟨bx2, 0, none⟩)), defers := [] })
            (fun Ns j V V' h hc => ⟨h.1.turn hc HC0.out, h.2.turn S hc HM2.out.2.2 HM2.out.1 HM2.out.2.1⟩)
            (fun Ns j a₁ V V' h hc => by
              obtain ⟨bx2, m2, h1, ⟨h2, h3⟩, h4, h5⟩ := h
              exact ⟨bx2, m2, h1, ⟨h2.turn hc HC0.out, h3.turn S hc HM2.out.2.2 HM2.out.1 HM2.out.2.1⟩, hc.cells h4, h5⟩)
            (fun Ns Ns' X Y h hc g1 g2 g3 => ⟨(h.1.more h.1.size g2).trans (Calm.new hc), h.2.more S hc g2 g3⟩)
            (fun z f => (HA2.out.off z (.inr (.inl f))).1)
            (fun Ns V h => ⟨h.2.wb.two.f, h.2.sq⟩)
            (fun Ns j V h => ⟨γ, p, S.refl γ, h.2.wb.two.f, h.2.sq⟩)
            ⟨HCM2.out, HA2.out⟩ ?assign2 ?body2 ?done2
          case assign2 =>
            rintro Ns l2 j hj V ⟨hcm, hA⟩ K hK
            have hjm : j < ms.length := by simpa using hj
            have hv : (ms.map mval)[j] = mval ms[j] := by simp
            rw [hv]
            unfold mval
            have HA : Hid (WS Fin Sq foot w0 γ δ a b d p p (.func (.func gf) #[] lb) sf Ns (some ⟨g, 0, none⟩) ms [(w0.heap.size, 3, .int .i64 stop), (w0.heap.size + 1, 4, .bool false), (b7, 23, .pointer (some ⟨a, 0, none⟩)), (B, 42, .func (.func gf) #[] lb), (B + 1, 32, .slice (some ⟨g, 0, none⟩) Lm wc), (B + 1 + 1, 3, .int .i64 ((k : Int) + 1)), (B + 1 + 1 + 1, 3, .int .i64 ((mi + j : Nat) : Int))] (V)) := hA
            have HCM : Hid (Calm Ns W1.heap.size W V) := hcm
            clear hA hcm
            gi_wp2
            exact hK _ _ ⟨V.heap.size, ms[j], List.getElem?_eq_getElem hjm, ⟨HCM.out.trans (Calm.new (chg_one _ _)), HA.out.new S (chg_one _ _)⟩, heap_alloc_last _ _, by simp only [mval, List.setIfInBounds_toArray, List.set_cons_succ, List.set_cons_zero]⟩ (Calm.new (chg_one _ _))
          case body2 =>
            rintro Ns l2 j hj a₂ V hBl2 hrec2 ⟨bx2, m2, hmk2, ⟨hcm, hA⟩, hbx2, rfl⟩
            simp only [List.setIfInBounds_toArray, List.set_cons_succ, List.set_cons_zero]
            have hjm : j < ms.length := by simpa using hj
            have hjL : j < Lm := by have := HLM.out; omega
            obtain ⟨kc15, _⟩ := hA.get 4 rfl
            obtain ⟨kc17, _⟩ := hA.get 6 rfl
            have hc7a := cell0 hbx2
            have hc7b := cell1 hbx2
            obtain ⟨g2, hwg2, x1, x2⟩ := hA.row j m2 hmk2
            obtain rfl : g = g2 := by simpa using hwg2
            obtain ⟨N1, hN1⟩ : ∃ N1, mi + j = N1 := ⟨_, rfl⟩
            have HN1 : Hid (mi + j = N1) := hN1
            have hN2 : N1 < 2 * Lm := by omega
            have hmod := HMOD.out j hjL
            rw [hN1] at hmod kc17
            obtain ⟨M2, hM2⟩ : ∃ M2, 2 * Lm = M2 := ⟨_, rfl⟩
            have hw2 : IntKind.i64.wrap (2 * (Lm : Int)) = (M2 : Int) := by
              simp [IntKind.wrap, IntKind.signed, IntKind.bits]
              omega
            have hge : decide ((M2 : Int) ≤ (N1 : Int)) = false := by simp; omega
            have hge' : decide (M2 ≤ N1) = false := by simp; omega
            have hNi : (N1 : Int) ≤ 64 := by omega
            have hmodi : (N1 : Int).tmod (Lm : Int) = (j : Int) := by rw [← hmod]; rfl
            have hLm0 : Lm ≠ 0 := by omega
            have hLm0' : ((Lm : Int) == 0) = false := by rw [beq_eq_false_iff_ne]; omega
            have hLm0i : ¬ (Lm : Int) = 0 := by omega
            have hji : (j : Int) ≤ 32 := by omega
            rw [hN1] at hA
            have HA : Hid (WS Fin Sq foot w0 γ δ a b d p p (.func (.func gf) #[] lb) sf Ns (some ⟨g, 0, none⟩) ms [(w0.heap.size, 3, .int .i64 stop), (w0.heap.size + 1, 4, .bool false), (b7, 23, .pointer (some ⟨a, 0, none⟩)), (B, 42, .func (.func gf) #[] lb), (B + 1, 32, .slice (some ⟨g, 0, none⟩) Lm wc), (B + 1 + 1, 3, .int .i64 ((k : Int) + 1)), (B + 1 + 1 + 1, 3, .int .i64 (N1 : Int))] (V)) := hA
            have HCM : Hid (Calm Ns W1.heap.size W V) := hcm
            have hjlt : decide (j < Lm) = true := decide_eq_true hjL
            unfold mval
            clear hA hmk2 hcm hN1 hrec2 hwg2 hmod hM2
            gi_wp2
            refine wpIn_region_quiet (by kernel_rfl) (by kernel_rfl) (by kernel_rfl) (by rintro ⟨_, _, hh⟩; exact hh) ?_
            repeat (quiet_step (fail))
            refine wpQuiet_nil ?_
            rintro _ ⟨nq2, rfl⟩
            have cQ := chg_drewN V nq2
            have HA1 : Hid (WS Fin Sq foot w0 γ δ a b d p p (.func (.func gf) #[] lb) sf Ns (some ⟨g, 0, none⟩) ms [(w0.heap.size, 3, .int .i64 stop), (w0.heap.size + 1, 4, .bool false), (b7, 23, .pointer (some ⟨a, 0, none⟩)), (B, 42, .func (.func gf) #[] lb), (B + 1, 32, .slice (some ⟨g, 0, none⟩) Lm wc), (B + 1 + 1, 3, .int .i64 ((k : Int) + 1)), (B + 1 + 1 + 1, 3, .int .i64 (N1 : Int))] (V.drewN nq2)) := HA.out.new S cQ
            have HC1 : Hid (Calm Ns W1.heap.size W (V.drewN nq2) ∧ Calm Ns W2.heap.size V (V.drewN nq2)) := ⟨HCM.out.trans (Calm.new cQ), Calm.new cQ⟩
            clear cQ kc15 kc17 x1 x2 hc7a hc7b HA HCM hbx2
            generalize V.drewN nq2 = V1 at *
            obtain ⟨kc17, kf17⟩ := HA1.out.get 6 rfl
            have HA3 : Hid (WS Fin Sq foot w0 γ δ a b d p p (.func (.func gf) #[] lb) sf Ns (some ⟨g, 0, none⟩) ms [(w0.heap.size, 3, .int .i64 stop), (w0.heap.size + 1, 4, .bool false), (b7, 23, .pointer (some ⟨a, 0, none⟩)), (B, 42, .func (.func gf) #[] lb), (B + 1, 32, .slice (some ⟨g, 0, none⟩) Lm wc), (B + 1 + 1, 3, .int .i64 ((k : Int) + 1)), (B + 1 + 1 + 1, 3, .int .i64 ((N1 : Int) + 1))] (V1.setCell ⟨B + 1 + 1 + 1, 0, none⟩ (.int .i64 ((N1 : Int) + 1)))) := HA1.out.set S 6 rfl _
            have HC2 : Hid (Calm Ns W1.heap.size W (V1.setCell ⟨B + 1 + 1 + 1, 0, none⟩ (.int .i64 ((N1 : Int) + 1))) ∧ Calm Ns W2.heap.size V (V1.setCell ⟨B + 1 + 1 + 1, 0, none⟩ (.int .i64 ((N1 : Int) + 1)))) := ⟨HC1.out.1.trans (HA1.out.calm 6 rfl _ _), HC1.out.2.trans (HA1.out.calm 6 rfl _ _)⟩
            clear HA1 HC1
            gi_wp2
            refine ⟨HC2.out.2, HC2.out.1, ?_⟩
            rw [show mi + (j + 1) = N1 + 1 from by have := HN1.out; omega]
            exact HA3.out
          case done2 =>
            rintro Ns2 V hsub ⟨hcm, hA⟩
            replace hcm := hcm.less hsub
            replace hA := hA.less hsub
            clear hsub Ns2
            rw [List.length_map, HLM.out, HMI.out] at hA
            obtain ⟨m3, hm3⟩ : ∃ m3, min (k + 1) 2 * Lm = m3 := ⟨_, rfl⟩
            rw [hm3] at hA
            have HM3 : Hid (m3 = min (k + 1) 2 * Lm) := hm3.symm
            have HA3 : Hid (WS Fin Sq foot w0 γ δ a b d p p (.func (.func gf) #[] lb) sf Ns (some ⟨g, 0, none⟩) ms [(w0.heap.size, 3, .int .i64 stop), (w0.heap.size + 1, 4, .bool false), (b7, 23, .pointer (some ⟨a, 0, none⟩)), (B, 42, .func (.func gf) #[] lb), (B + 1, 32, .slice (some ⟨g, 0, none⟩) Lm wc), (B + 1 + 1, 3, .int .i64 ((k : Int) + 1)), (B + 1 + 1 + 1, 3, .int .i64 (m3 : Int))] (V)) := hA
            have HC3 : Hid (Calm Ns W1.heap.size W V) := hcm
            clear hA hcm hm3
            obtain ⟨kd16, _⟩ := HA3.out.get 5 rfl
            obtain ⟨kd5, _⟩ := HA3.out.get 0 rfl
            by_cases hsp : (k : Int) + 1 = stop
            · have hb1 : (((k : Int) + 1) == stop) = true := by simp [hsp]
              have hb2 : decide ((k : Int) + 1 = stop) = true := decide_eq_true hsp
              have HSP : Hid ((k : Int) + 1 = stop) := hsp
              clear hsp
              gi_wp2
              exact ⟨HC3.out, rfl, by rw [Int.natCast_add]; exact HSP.out, m3, HM3.out, HA3.out⟩
            · have hb1 : (((k : Int) + 1) == stop) = false := by rw [beq_eq_false_iff_ne]; exact hsp
              have hb2 : decide ((k : Int) + 1 = stop) = false := decide_eq_false hsp
              gi_wp2
              exact ⟨HC3.out, m3, HM3.out, HA3.out⟩

        · have hb3 : decide ((k : Int) + 1 < 3) = false := by simp; omega
          have hb3' : decide (k + 1 < 3) = false := by simp; omega
          have HM3 : Hid (mi = min (k + 1) 2 * Lm) := by show _ = _; rw [hmi, Nat.min_eq_right (by omega), Nat.min_eq_right (by omega)]
          clear hmi kd14 kd16 kd5
          have HA3 : Hid _ := HA2.out
          have HC3 : Hid _ := HCM2.out
          obtain ⟨m3, hm3⟩ : ∃ m3, m3 = mi := ⟨_, rfl⟩
          rw [← hm3] at HA3 HM3
          clear hm3 HA2 HCM2
          obtain ⟨kd16, _⟩ := HA3.out.get 5 rfl
          obtain ⟨kd5, _⟩ := HA3.out.get 0 rfl
          by_cases hsp : (k : Int) + 1 = stop
          · have hb1 : (((k : Int) + 1) == stop) = true := by simp [hsp]
            have hb2 : decide ((k : Int) + 1 = stop) = true := decide_eq_true hsp
            have HSP : Hid ((k : Int) + 1 = stop) := hsp
            clear hsp
            gi_wp2
            exact ⟨HC3.out, rfl, by rw [Int.natCast_add]; exact HSP.out, m3, HM3.out, HA3.out⟩
          · have hb1 : (((k : Int) + 1) == stop) = false := by rw [beq_eq_false_iff_ne]; exact hsp
            have hb2 : decide ((k : Int) + 1 = stop) = false := decide_eq_false hsp
            gi_wp2
            exact ⟨HC3.out, m3, HM3.out, HA3.out⟩


      case exits =>
        intro a₂ W₂ h
        exact wpIn_wide.2 (wp_exit (by simpa [Exit.inBlock] using h))
      case done =>
        rintro Ns D1 k W _ hD1 hk hdef1
        obtain ⟨hkL, hks, mi, hmi, hA⟩ : k ≤ Lm ∧ (k = Lm ∨ (k : Int) = stop) ∧ ∃ mi : Nat, mi = min k 2 * Lm ∧ WS Fin Sq foot w0 γ δ a b d p p (.func (.func gf) #[] lb) sf Ns wa ms [(w0.heap.size, 3, .int .i64 stop), (w0.heap.size + 1, 4, .bool false), (b7, 23, .pointer (some ⟨a, 0, none⟩)), (B, 42, .func (.func gf) #[] lb), (B + 1, 32, .slice wa Lm wc), (B + 1 + 1, 3, .int .i64 (k : Int)), (B + 1 + 1 + 1, 3, .int .i64 (mi : Int))] (W) := by
          rcases hk with ⟨h1, mi, h2, h3⟩ | ⟨h1, h2, h3, mi, h4, h5⟩
          · rw [List.length_map, HLM.out] at h1
            exact ⟨by omega, .inl h1, mi, h2, h3⟩
          · rw [List.length_map, HLM.out] at h2
            exact ⟨h2, .inr h3, mi, h4, h5⟩
        clear hk
        have HA : Hid (WS Fin Sq foot w0 γ δ a b d p p (.func (.func gf) #[] lb) sf Ns wa ms [(w0.heap.size, 3, .int .i64 stop), (w0.heap.size + 1, 4, .bool false), (b7, 23, .pointer (some ⟨a, 0, none⟩)), (B, 42, .func (.func gf) #[] lb), (B + 1, 32, .slice wa Lm wc), (B + 1 + 1, 3, .int .i64 (k : Int)), (B + 1 + 1 + 1, 3, .int .i64 (mi : Int))] (W)) := hA
        obtain ⟨kc5, _⟩ := hA.get 0 rfl
        obtain ⟨kc15, _⟩ := hA.get 4 rfl
        obtain ⟨kc16, _⟩ := hA.get 5 rfl
        obtain ⟨kc17, _⟩ := hA.get 6 rfl
        have hki : (k : Int) ≤ 32 := by omega
        obtain ⟨m2, hm2⟩ : ∃ m2, min k 2 = m2 := ⟨_, rfl⟩
        have hm2b : m2 ≤ 2 := by omega
        have hmin : (if (k : Int) < 2 then (k : Int) else 2) = (m2 : Int) := by split <;> omega
        have hmin2 : (if (2 : Int) < (k : Int) then 2 else (k : Int)) = (m2 : Int) := by split <;> omega
        have hmi2 : m2 * Lm = mi := by rw [← hm2, hmi]
        have hmib : mi ≤ 64 := by
          have : m2 * Lm ≤ 2 * 32 := Nat.mul_le_mul hm2b hLm32
          omega
        have hmii : (m2 : Int) * (Lm : Int) = (mi : Int) := by rw [← hmi2, Int.natCast_mul]
        have hwm : IntKind.i64.wrap ((m2 : Int) * (Lm : Int)) = (mi : Int) := by
          rw [hmii]
          simp [IntKind.wrap, IntKind.signed, IntKind.bits]
          omega
        have hmm : ((mi : Int) == (mi : Int)) = true := by simp
        have HMK : Hid (mi = min k 2 * Lm) := hmi
        obtain ⟨E, hE⟩ : ∃ E, L - p = E := ⟨_, rfl⟩
        have hEi : (L : Int) - (p : Int) = (E : Int) := by omega
        have HE : Hid (p + E = L) := by show _ = _; omega
        have hEb : (E : Int) ≤ 140737488351232 := by omega
        have HB2 : Hid (WS Fin Sq foot w0 γ δ a b d p p (.func (.func gf) #[] lb) sf Ns wa ms [(w0.heap.size, 3, .int .i64 stop), (w0.heap.size + 1, 4, .bool false), (b7, 23, .pointer (some ⟨a, 0, none⟩)), (B, 42, .func (.func gf) #[] lb), (B + 1, 32, .slice wa Lm wc), (B + 1 + 1, 3, .int .i64 (k : Int)), (B + 1 + 1 + 1, 3, .int .i64 (mi : Int)), (W.heap.size, 3, .int .i64 (E : Int)), (W.heap.size + 1, 3, .int .i64 0)] ((W.alloc (.cells #[.int .i64 (E : Int)] 3)).alloc (.cells #[.int .i64 0] 3))) := by
          have := (hA.add S 3 (.int .i64 (E : Int))).add S 3 (.int .i64 0)
          simp only [World.size_alloc] at this
          exact this
        obtain ⟨kd14, _⟩ := HB2.out.get 3 rfl
        clear hA hmi hm2 hmi2 hmii hE
        by_cases hkl : k = Lm
        · have hb1 : ((k : Int) == (Lm : Int)) = true := by simp [hkl]
          have hn1 : ((k : Int) != (Lm : Int)) = false := by simp [hkl]
          clear hks
          have HKL : Hid (k = Lm) := hkl
          clear hkl
          go_wp2_with fail
          have cS : Chg (fun _ => False) W ((W.alloc (.cells #[.int .i64 (E : Int)] 3)).alloc (.cells #[.int .i64 0] 3)) := ((Chg.refl _ W).alloc _).alloc _
          have HDS : Hid (((W.alloc (.cells #[.int .i64 (E : Int)] 3)).alloc (.cells #[.int .i64 0] 3)).heap[D1]? = some (.deferred (some []))) := blk_keep hdef1 cS (fun f => f)
          clear hdef1 cS kc5 kc15 kc16 kc17 kd14 HA
          generalize (W.alloc (.cells #[.int .i64 (E : Int)] 3)).alloc (.cells #[.int .i64 0] 3) = Ws at *
          generalize W.heap.size = C at *
          have HM9 : Hid (mp γ < Ws.heap.size ∧ mp δ < Ws.heap.size ∧ w0.heap.size ≤ Ws.heap.size) := ⟨(S.mpLt HB2.out.wb.two.f).2, (S.mpLt HB2.out.wb.two.g).2, HB2.out.wb.two.chg.size⟩
          have HSW : Hid (W1.heap.size ≤ Ws.heap.size) := by have := lt_of_blk HDS.out; show _ ≤ _; omega
          refine wpIn_wide.1 (wp_rangeU (gf := gf) (lb := lb) rfl HEG.out HIT1.out rfl
            Ns (fun Ns j V => Calm Ns W1.heap.size Ws V ∧ ∃ (γ2 : Γ) (e q : Nat), le γ γ2 ∧ q + e = L ∧ (j = 0 → q = p ∧ γ2 = γ) ∧ (0 < j → q = L) ∧ WS Fin Sq foot w0 γ2 δ a b d q p (.func (.func gf) #[] lb) sf Ns wa ms [(w0.heap.size, 3, .int .i64 stop), (w0.heap.size + 1, 4, .bool false), (b7, 23, .pointer (some ⟨a, 0, none⟩)), (B, 42, .func (.func gf) #[] lb), (B + 1, 32, .slice wa Lm wc), (B + 1 + 1, 3, .int .i64 (k : Int)), (B + 1 + 1 + 1, 3, .int .i64 (mi : Int)), (C, 3, .int .i64 (e : Int)), (C + 1, 3, .int .i64 (j : Int))] (V))
            (fun T Ns j a₁ V => ∃ (bx : Nat) (m : Nat × Nat), ms[j]? = some m ∧ Calm Ns W1.heap.size Ws V ∧ (∃ (γ2 : Γ) (e q : Nat), (le γ γ2 ∧ q + e = L ∧ (j = 0 → q = p ∧ γ2 = γ) ∧ (0 < j → q = L) ∧ WS Fin Sq foot w0 γ2 δ a b d q p (.func (.func gf) #[] lb) sf Ns wa ms [(w0.heap.size, 3, .int .i64 stop), (w0.heap.size + 1, 4, .bool false), (b7, 23, .pointer (some ⟨a, 0, none⟩)), (B, 42, .func (.func gf) #[] lb), (B + 1, 32, .slice wa Lm wc), (B + 1 + 1, 3, .int .i64 (k : Int)), (B + 1 + 1 + 1, 3, .int .i64 (mi : Int)), (C, 3, .int .i64 (e : Int)), (C + 1, 3, .int .i64 (j : Int))] (V)) ∧ ¬ foot γ2 bx) ∧ V.heap[bx]? = some (.cells #[.int .i64 (m.1 : Int), .int .i64 (m.2 : Int)] 30 (0, 0)) ∧ a₁ = { tmps := (T.setIfInBounds 159 (mval m)).setIfInBounds 22 (.pointer (some ⟨bx, 0, none⟩)), defers := [] })
            (fun Ns j V V' h hc => by
              obtain ⟨h0, γ2, e, q, h1, h2, h3, h4, h5⟩ := h
              exact ⟨h0.turn hc (Nat.le_refl _), γ2, e, q, h1, h2, h3, h4, h5.turn S hc HM9.out.2.2 (by rw [S.mpEq h1]; exact HM9.out.1) HM9.out.2.1⟩)
            (fun Ns j a₁ V V' h hc => by
              obtain ⟨bx, m, hm, h0, ⟨γ2, e, q, ⟨h1, h2, h3, h4, h5⟩, h6⟩, h7, h8⟩ := h
              exact ⟨bx, m, hm, h0.turn hc (Nat.le_refl _), ⟨γ2, e, q, ⟨h1, h2, h3, h4, h5.turn S hc HM9.out.2.2 (by rw [S.mpEq h1]; exact HM9.out.1) HM9.out.2.1⟩, h6⟩, hc.cells h7, h8⟩)
            (fun Ns Ns' X Y h hc g1 g2 g3 => by
              obtain ⟨h0, γ2, e, q, h1, h2, h3, h4, h5⟩ := h
              exact ⟨(h0.more h0.size g2).trans (Calm.new hc), γ2, e, q, h1, h2, h3, h4, h5.more S hc g2 g3⟩)
            (fun z f => (HB2.out.off z (.inr (.inl f))).1)
            (fun Ns V h => by
              obtain ⟨h0, γ2, e, q, h1, h2, h3, h4, h5⟩ := h
              obtain ⟨e1, e2⟩ := h3 rfl
              rw [e1, e2] at h5
              exact ⟨h5.wb.two.f, h5.sq⟩)
            (fun Ns j V h => by
              obtain ⟨h0, γ2, e, q, h1, h2, h3, h4, h5⟩ := h
              exact ⟨γ2, q, h1, h5.wb.two.f, h5.sq⟩)
            ⟨Calm.new (Chg.refl _ _), γ, E, p, S.refl γ, HE.out, fun _ => ⟨rfl, rfl⟩, fun h => by omega, HB2.out⟩ ?_ ?_ ?_)
          · rintro Ns l j hj V ⟨hcm, γ2, e, q, hR⟩ K hK
            have hjm : j < ms.length := by simpa using hj
            have hv : (ms.map mval)[j] = mval ms[j] := by simp
            rw [hv]
            unfold mval
            have HR : Hid (le γ γ2 ∧ q + e = L ∧ (j = 0 → q = p ∧ γ2 = γ) ∧ (0 < j → q = L) ∧ WS Fin Sq foot w0 γ2 δ a b d q p (.func (.func gf) #[] lb) sf Ns wa ms [(w0.heap.size, 3, .int .i64 stop), (w0.heap.size + 1, 4, .bool false), (b7, 23, .pointer (some ⟨a, 0, none⟩)), (B, 42, .func (.func gf) #[] lb), (B + 1, 32, .slice wa Lm wc), (B + 1 + 1, 3, .int .i64 (k : Int)), (B + 1 + 1 + 1, 3, .int .i64 (mi : Int)), (C, 3, .int .i64 (e : Int)), (C + 1, 3, .int .i64 (j : Int))] (V)) := hR
            have HCM : Hid (Calm Ns W1.heap.size Ws V) := hcm
            clear hR hcm
            gi_wp2
            obtain ⟨h1, h2, h3, h4, h5⟩ := HR.out
            exact hK _ _ ⟨V.heap.size, ms[j], List.getElem?_eq_getElem hjm, HCM.out.trans (Calm.new (chg_one _ _)), ⟨γ2, e, q, ⟨h1, h2, h3, h4, h5.new S (chg_one _ _)⟩, fun f => by have := (S.lt h5.wb.two.f _ f).2; omega⟩, heap_alloc_last _ _, by simp only [mval, List.setIfInBounds_toArray, List.set_cons_succ, List.set_cons_zero]⟩ (Calm.new (chg_one _ _))
          · skip
            rintro Ns l j hj a₁ V hBl hrec ⟨bx, m, hmj, hcm, ⟨γ2, e, q, ⟨hle, hqe, hq0, hq1, hA⟩, hnf⟩, hbx, rfl⟩
            simp only [List.setIfInBounds_toArray, List.set_cons_succ, List.set_cons_zero]
            have hjm : j < ms.length := by simpa using hj
            have hjL : j < Lm := by have := HLM.out; omega
            obtain ⟨g, hwg, _, _⟩ := hA.row j m hmj
            subst hwg
            have hge : decide ((Lm : Int) ≤ (j : Int)) = false := by simp; omega
            have hge' : decide (Lm ≤ j) = false := by simp; omega
            have hji : (j : Int) ≤ 32 := by omega
            have hei : (e : Int) ≤ 140737488351232 := by omega
            have HA : Hid (WS Fin Sq foot w0 γ2 δ a b d q p (.func (.func gf) #[] lb) sf Ns (some ⟨g, 0, none⟩) ms [(w0.heap.size, 3, .int .i64 stop), (w0.heap.size + 1, 4, .bool false), (b7, 23, .pointer (some ⟨a, 0, none⟩)), (B, 42, .func (.func gf) #[] lb), (B + 1, 32, .slice (some ⟨g, 0, none⟩) Lm wc), (B + 1 + 1, 3, .int .i64 (k : Int)), (B + 1 + 1 + 1, 3, .int .i64 (mi : Int)), (C, 3, .int .i64 (e : Int)), (C + 1, 3, .int .i64 (j : Int))] (V)) := hA
            have HCM : Hid (Calm Ns W1.heap.size Ws V) := hcm
            have HMJ : Hid (ms[j]? = some m) := hmj
            have HBX : Hid (V.heap[bx]? = some (.cells #[.int .i64 (m.1 : Int), .int .i64 (m.2 : Int)] 30 (0, 0))) := hbx
            have HNF : Hid (¬ foot γ2 bx) := hnf
            have HQE : Hid (q + e = L) := hqe
            have HLE : Hid (le γ γ2) := hle
            have HMB : Hid (mp γ2 < W1.heap.size ∧ mp γ2 < Ws.heap.size) := by
              have h1 := S.mpEq hle
              rw [h1]
              exact ⟨HM8.out.1, HM9.out.1⟩
            unfold mval
            clear hA hcm hmj hbx hnf hle hq0 hq1 hrec
            gi_wp2
            refine wpIn_region_phase (mk := fun u => #[_, _, _, _, _, _, _, _, _, _, _, _, _, _, _, _, _, _, _, _, _, _, _, _, _, _, _, _, _, _, _, _, _, _, _, _, _, _, _, _, _, _, _, _, _, _, _, _, _, _, _, _, _, _, _, _, _, _, _, _, _, _, _, _, _, _, _, _, _, _, _, _, _, _, _, _, _, _, _, _, _, _, _, _, _, _, _, _, _, _, _, _, _, _, _, _, _, _, _, _, _, _, _, _, _, _, _, _, _, _, _, _, _, _, _, _, _, _, _, _, _, _, _, _, _, _, _, _, _, _, _, _, _, _, _, _, _, _, _, _, _, _, _, _, _, _, _, _, _, _, _, _, _, _, _, _, _, _, _, _, u 160, u 161, u 162, u 163, u 164, u 165, u 166, u 167, u 168, u 169, u 170, u 171, u 172, u 173, u 174, u 175, u 176, u 177, _, _, _, _, _, _, _, _, _, _, _, _, _, _, _, _, _, _, _, _, _, _, _, _, _, _, _, _, _, _, _, _, _, _, _, _]) (G := lookG [(160, .int .i64 (j : Int)), (161, .slice (some ⟨g, 0, none⟩) Lm wc), (162, .int .i64 (Lm : Int)), (163, .bool false), (164, .bool false), (165, .agg #[.int .i64 (m.1 : Int), .int .i64 (m.2 : Int)]), (166, .slice (some ⟨g, 0, none⟩) Lm wc), (167, .int .i64 (j : Int)), (168, .pointer (some ⟨g, j * 2, none⟩)), (169, .agg #[.int .i64 (m.1 : Int), .int .i64 (m.2 : Int)]), (170, .bool false), (171, .bool false), (172, .bool false), (173, .pointer (some ⟨a, 0, none⟩)), (174, .int .i64 (e : Int)), (175, .int .i64 0), (176, .int .i64 0), (177, .bool false)]) (J := fun n _ ww => ww.heap[bx]? = some (.cells #[.int .i64 (m.1 : Int), .int .i64 (m.2 : Int)] 30 (0, 0)) ∧ ∃ (γ3 : Γ) (q3 : Nat), le γ2 γ3 ∧ (n = 0 → γ2 = γ3 ∧ q = q3) ∧ (0 < n → L = q3) ∧ Calm Ns W1.heap.size V ww ∧ Calm Ns Ws.heap.size V ww ∧ WS Fin Sq foot w0 γ3 δ a b d q3 p (.func (.func gf) #[] lb) sf Ns (some ⟨g, 0, none⟩) ms [(w0.heap.size, 3, .int .i64 stop), (w0.heap.size + 1, 4, .bool false), (b7, 23, .pointer (some ⟨a, 0, none⟩)), (B, 42, .func (.func gf) #[] lb), (B + 1, 32, .slice (some ⟨g, 0, none⟩) Lm wc), (B + 1 + 1, 3, .int .i64 (k : Int)), (B + 1 + 1 + 1, 3, .int .i64 (mi : Int)), (C, 3, .int .i64 (e : Int)), (C + 1, 3, .int .i64 (j : Int))] (ww)) [15, 16] (fun _ => undef) rfl (by kernel_rfl) 18 _ rfl rfl (by kernel_rfl) (by kernel_rfl) (by kernel_rfl) (by decide) (by kernel_rfl) (by rintro ⟨_, _, hh⟩; exact hh) ?_ ?_ ?_ ?_ ?_
            · repeat (refine ⟨⟨_, rfl, fun _ _ => rfl⟩, ?_⟩)
              exact trivial
            · exact fun q u u2 ww _ h => h
            · have cD : Chg (fun _ => False) V V.drew := (Chg.refl _ V).drew
              exact ⟨blk_keep HBX.out cD (fun f => f), γ2, q, S.refl γ2, fun _ => ⟨rfl, rfl⟩, fun h => by omega, Calm.new cD, Calm.new cD, HA.out.new S cD⟩
            · refine ⟨?_, ?_, ?_, ?_, ?_, ?_, ?_, ?_, ?_, ?_, ?_, ?_, ?_, ?_, ?_, ?_, ?_, ?_, trivial⟩
              · show StepR _ _ _ _ _ _  _ -- 160
                unfold StepR
                intro q u w_ hj hd K hK
                clear hd
                obtain ⟨hb, γ3, q3, hl3, h30, h31, hc1, hc2, hws⟩ := hj
                obtain ⟨kc, _⟩ := hws.get 8 rfl
                clear hb hl3 h30 h31 hc1 hc2 hws
                go_simp
                exact hK.out _ rfl
              · show StepR _ _ _ _ _ _  _ -- 161
                unfold StepR
                intro q u w_ hj hd K hK
                clear hd
                obtain ⟨hb, γ3, q3, hl3, h30, h31, hc1, hc2, hws⟩ := hj
                obtain ⟨kc, _⟩ := hws.get 4 rfl
                clear hb hl3 h30 h31 hc1 hc2 hws
                go_simp
                exact hK.out _ rfl
              · show StepR _ _ _ _ _ _  _ -- 162
                unfold StepR
                intro q u w_ hj hd K hK
                have h161 : u 161 = .slice (some ⟨g, 0, none⟩) Lm wc := hd.get 1 (by kernel_rfl)
                clear hd
                simp only [h161] at hK
                go_simp
                exact hK.out (.int .i64 (Lm : Int)) rfl
              · show StepR _ _ _ _ _ _  _ -- 163
                unfold StepR
                intro q u w_ hj hd K hK
                have h160 : u 160 = .int .i64 (j : Int) := hd.get 0 (by kernel_rfl)
                have h162 : u 162 = .int .i64 (Lm : Int) := hd.get 2 (by kernel_rfl)
                clear hd
                simp only [h160, h162] at hK
                go_simp
                exact hK.out (.bool false) rfl
              · show StepR _ _ _ _ _ _  _ -- 164
                unfold StepR
                intro q u w_ hj hd K hK
                have h163 : u 163 = .bool false := hd.get 3 (by kernel_rfl)
                clear hd
                simp only [h163] at hK
                go_simp
                exact hK.out (.bool false) rfl
              · show StepR _ _ _ _ _ _  _ -- 165
                unfold StepR
                intro q u w_ hj hd K hK
                have h164 : u 164 = .bool false := hd.get 4 (by kernel_rfl)
                clear hd
                simp only [h164] at hK
                obtain ⟨hb, γ3, q3, hl3, h30, h31, hc1, hc2, hws⟩ := hj
                have hca := cell0 hb
                have hcb := cell1 hb
                clear hl3 h30 h31 hc1 hc2 hws
                go_simp
                exact hK.out _ rfl
              · show StepR _ _ _ _ _ _  _ -- 166
                unfold StepR
                intro q u w_ hj hd K hK
                have h164 : u 164 = .bool false := hd.get 4 (by kernel_rfl)
                clear hd
                simp only [h164] at hK
                obtain ⟨hb, γ3, q3, hl3, h30, h31, hc1, hc2, hws⟩ := hj
                obtain ⟨kc, _⟩ := hws.get 4 rfl
                clear hb hl3 h30 h31 hc1 hc2 hws
                go_simp
                exact hK.out _ rfl
              · show StepR _ _ _ _ _ _  _ -- 167
                unfold StepR
                intro q u w_ hj hd K hK
                have h164 : u 164 = .bool false := hd.get 4 (by kernel_rfl)
                clear hd
                simp only [h164] at hK
                obtain ⟨hb, γ3, q3, hl3, h30, h31, hc1, hc2, hws⟩ := hj
                obtain ⟨kc, _⟩ := hws.get 8 rfl
                clear hb hl3 h30 h31 hc1 hc2 hws
                go_simp
                exact hK.out _ rfl
              · show StepR _ _ _ _ _ _  _ -- 168
                unfold StepR
                intro q u w_ hj hd K hK
                have h166 : u 166 = .slice (some ⟨g, 0, none⟩) Lm wc := hd.get 6 (by kernel_rfl)
                have h167 : u 167 = .int .i64 (j : Int) := hd.get 7 (by kernel_rfl)
                have h164 : u 164 = .bool false := hd.get 4 (by kernel_rfl)
                clear hd
                simp only [h166, h167, h164] at hK
                go_simp
                exact hK.out (.pointer (some ⟨g, j * 2, none⟩)) rfl
              · show StepR _ _ _ _ _ _  _ -- 169
                unfold StepR
                intro q u w_ hj hd K hK
                have h168 : u 168 = .pointer (some ⟨g, j * 2, none⟩) := hd.get 8 (by kernel_rfl)
                have h164 : u 164 = .bool false := hd.get 4 (by kernel_rfl)
                clear hd
                simp only [h168, h164] at hK
                obtain ⟨hb, γ3, q3, hl3, h30, h31, hc1, hc2, hws⟩ := hj
                obtain ⟨g3, hg3, hx1, hx2⟩ := hws.row j m HMJ.out
                obtain rfl : g = g3 := by simpa using hg3
                clear hb hl3 h30 h31 hc1 hc2 hws
                go_simp
                exact hK.out _ rfl
              · show StepR _ _ _ _ _ _  _ -- 170
                unfold StepR
                intro q u w_ hj hd K hK
                have h165 : u 165 = .agg #[.int .i64 (m.1 : Int), .int .i64 (m.2 : Int)] := hd.get 5 (by kernel_rfl)
                have h169 : u 169 = .agg #[.int .i64 (m.1 : Int), .int .i64 (m.2 : Int)] := hd.get 9 (by kernel_rfl)
                have h164 : u 164 = .bool false := hd.get 4 (by kernel_rfl)
                clear hd
                simp only [h165, h169, h164] at hK
                go_simp
                exact hK.out (.bool false) rfl
              · show StepR _ _ _ _ _ _  _ -- 171
                unfold StepR
                intro q u w_ hj hd K hK
                have h164 : u 164 = .bool false := hd.get 4 (by kernel_rfl)
                have h170 : u 170 = .bool false := hd.get 10 (by kernel_rfl)
                clear hd
                simp only [h164, h170] at hK
                go_simp
                exact hK.out (.bool false) rfl
              · show StepR _ _ _ _ _ _  _ -- 172
                unfold StepR
                intro q u w_ hj hd K hK
                have h171 : u 171 = .bool false := hd.get 11 (by kernel_rfl)
                clear hd
                simp only [h171] at hK
                go_simp
                exact hK.out (.bool false) rfl
              · show StepR _ _ _ _ _ _  _ -- 173
                unfold StepR
                intro q u w_ hj hd K hK
                have h172 : u 172 = .bool false := hd.get 12 (by kernel_rfl)
                clear hd
                simp only [h172] at hK
                obtain ⟨hb, γ3, q3, hl3, h30, h31, hc1, hc2, hws⟩ := hj
                obtain ⟨kc, _⟩ := hws.get 2 rfl
                clear hb hl3 h30 h31 hc1 hc2 hws
                go_simp
                exact hK.out _ rfl
              · show StepR _ _ _ _ _ _  _ -- 174
                unfold StepR
                intro q u w_ hj hd K hK
                have h172 : u 172 = .bool false := hd.get 12 (by kernel_rfl)
                clear hd
                simp only [h172] at hK
                obtain ⟨hb, γ3, q3, hl3, h30, h31, hc1, hc2, hws⟩ := hj
                obtain ⟨kc, _⟩ := hws.get 7 rfl
                clear hb hl3 h30 h31 hc1 hc2 hws
                go_simp
                exact hK.out _ rfl
              · show StepW _ _ _ _ _ _ 0 _ -- 175
                unfold StepW
                intro u w_ hj hd K hK
                have h173 : u 173 = .pointer (some ⟨a, 0, none⟩) := hd.get 13 (by kernel_rfl)
                have h174 : u 174 = .int .i64 (e : Int) := hd.get 14 (by kernel_rfl)
                have h172 : u 172 = .bool false := hd.get 12 (by kernel_rfl)
                clear hd
                simp only [h173, h174, h172] at hK
                obtain ⟨hb, γ3, q3, hl3, h30, h31, hc1, hc2, hws⟩ := hj
                obtain ⟨rfl, rfl⟩ := h30 rfl
                go_simp
                go_at_call 13
                refine (S.skipIn γ2 w0.heap.size a d 4096 q e w_ hws.wb.two.f hws.wb.two.chg.size (by have := HDL.out; omega)).mono ?_
                rintro z w2 ⟨rfl, γ4, hf, hn⟩
                exact hK.out _ w2 ⟨blk_keep hb hf.chg HNF.out, γ4, q + e, hf.le, fun h => by omega, fun _ => HQE.out.symm, hc1.trans (hws.calmF S hf (HMB.out.1)), hc2.trans (hws.calmF S hf (HMB.out.2)), hws.skip S hf hn⟩ rfl
              · show StepW _ _ _ _ _ _ 1 _ -- 176
                unfold StepW
                intro u w_ hj hd K hK
                have h175 : u 175 = .int .i64 0 := hd.get 15 (by kernel_rfl)
                have h172 : u 172 = .bool false := hd.get 12 (by kernel_rfl)
                clear hd
                simp only [h175, h172] at hK
                obtain ⟨hb, γ3, q3, hl3, h30, h31, hc1, hc2, hws⟩ := hj
                have H31 : Hid (L = q3) := h31 (by omega)
                clear h30 h31
                go_simp
                go_at_call 9
                refine (num_any _ _).mono ?_
                rintro z w2 ⟨rfl, rfl⟩
                exact hK.out _ w_ ⟨hb, γ3, q3, hl3, fun h => by omega, fun _ => H31.out, hc1, hc2, hws⟩ rfl
              · show StepR _ _ _ _ _ _  _ -- 177
                unfold StepR
                intro q u w_ hj hd K hK
                have h176 : u 176 = .int .i64 0 := hd.get 16 (by kernel_rfl)
                have h172 : u 172 = .bool false := hd.get 12 (by kernel_rfl)
                clear hd
                simp only [h176, h172] at hK
                go_simp
                exact hK.out (.bool false) rfl
            · intro u w5 hj hA K hK
              obtain ⟨hb, γ3, q3, hl3, h30, h31, hc1, hc2, hws⟩ := hj
              obtain rfl : L = q3 := h31 (by decide)
              have e172 : u 172 = .bool false := hA.at 172 (by kernel_rfl)
              have e177 : u 177 = .bool false := hA.at 177 (by kernel_rfl)
              have HW5 : Hid (WS Fin Sq foot w0 γ3 δ a b d L p (.func (.func gf) #[] lb) sf Ns (some ⟨g, 0, none⟩) ms [(w0.heap.size, 3, .int .i64 stop), (w0.heap.size + 1, 4, .bool false), (b7, 23, .pointer (some ⟨a, 0, none⟩)), (B, 42, .func (.func gf) #[] lb), (B + 1, 32, .slice (some ⟨g, 0, none⟩) Lm wc), (B + 1 + 1, 3, .int .i64 (k : Int)), (B + 1 + 1 + 1, 3, .int .i64 (mi : Int)), (C, 3, .int .i64 (e : Int)), (C + 1, 3, .int .i64 (j : Int))] (w5)) := hws
              have HC5 : Hid (Calm Ns W1.heap.size V w5 ∧ Calm Ns Ws.heap.size V w5) := ⟨hc1, hc2⟩
              have HL5 : Hid (le γ2 γ3) := hl3
              clear hA hb hl3 h30 h31 hc1 hc2 hws HA
              go_simp
              refine hK.out _ _ ?_
              clear hK e172 e177 K
              have HW6 : Hid (WS Fin Sq foot w0 γ3 δ a b d L p (.func (.func gf) #[] lb) sf Ns (some ⟨g, 0, none⟩) ms [(w0.heap.size, 3, .int .i64 stop), (w0.heap.size + 1, 4, .bool false), (b7, 23, .pointer (some ⟨a, 0, none⟩)), (B, 42, .func (.func gf) #[] lb), (B + 1, 32, .slice (some ⟨g, 0, none⟩) Lm wc), (B + 1 + 1, 3, .int .i64 (k : Int)), (B + 1 + 1 + 1, 3, .int .i64 (mi : Int)), (C, 3, .int .i64 (e : Int)), (C + 1, 3, .int .i64 ((j : Int) + 1))] (w5.setCell ⟨C + 1, 0, none⟩ (.int .i64 ((j : Int) + 1)))) := HW5.out.set S 8 rfl _
              have HW7 : Hid (WS Fin Sq foot w0 γ3 δ a b d L p (.func (.func gf) #[] lb) sf Ns (some ⟨g, 0, none⟩) ms [(w0.heap.size, 3, .int .i64 stop), (w0.heap.size + 1, 4, .bool false), (b7, 23, .pointer (some ⟨a, 0, none⟩)), (B, 42, .func (.func gf) #[] lb), (B + 1, 32, .slice (some ⟨g, 0, none⟩) Lm wc), (B + 1 + 1, 3, .int .i64 (k : Int)), (B + 1 + 1 + 1, 3, .int .i64 (mi : Int)), (C, 3, .int .i64 0), (C + 1, 3, .int .i64 ((j : Int) + 1))] ((w5.setCell ⟨C + 1, 0, none⟩ (.int .i64 ((j : Int) + 1))).setCell ⟨C, 0, none⟩ (.int .i64 0))) := HW6.out.set S 7 rfl _
              have HC7 : Hid (Calm Ns W1.heap.size V ((w5.setCell ⟨C + 1, 0, none⟩ (.int .i64 ((j : Int) + 1))).setCell ⟨C, 0, none⟩ (.int .i64 0)) ∧ Calm Ns Ws.heap.size V ((w5.setCell ⟨C + 1, 0, none⟩ (.int .i64 ((j : Int) + 1))).setCell ⟨C, 0, none⟩ (.int .i64 0))) := ⟨(HC5.out.1.trans (HW5.out.calm 8 rfl _ _)).trans (HW6.out.calm 7 rfl _ _), (HC5.out.2.trans (HW5.out.calm 8 rfl _ _)).trans (HW6.out.calm 7 rfl _ _)⟩
              obtain ⟨kc21, kf21⟩ := HW5.out.get 8 rfl
              obtain ⟨kc20, kf20⟩ := HW6.out.get 7 rfl
              clear HW5 HW6 HC5
              gi_wp2
              exact ⟨HC7.out.2, HCM.out.trans HC7.out.1, γ3, 0, L, S.trans HLE.out HL5.out, rfl, fun h => by omega, fun _ => rfl, HW7.out⟩
          · skip
            rintro Ns D2 V _ hD2 ⟨hcm, γ2, e, q, hle, hqe, hq0, hq1, hA⟩ hdef2
            rw [List.length_map, HLM.out] at hq0 hq1 hA
            have HD1v : Hid ((V.alloc (.cells #[.int .i64 0] 3)).heap[D1]? = some (.deferred (some []))) := blk_keep (Calm.keep hcm hD1 HDS.out rfl) (chg_one _ _) (fun f => f)
            have HD2 : Hid ((V.alloc (.cells #[.int .i64 0] 3)).heap[D2]? = some (.deferred (some []))) := blk_keep hdef2 (chg_one _ _) (fun f => f)
            have HB5 : Hid (WS Fin Sq foot w0 γ2 δ a b d q p (.func (.func gf) #[] lb) sf Ns wa ms [(w0.heap.size, 3, .int .i64 stop), (w0.heap.size + 1, 4, .bool false), (b7, 23, .pointer (some ⟨a, 0, none⟩)), (B, 42, .func (.func gf) #[] lb), (B + 1, 32, .slice wa Lm wc), (B + 1 + 1, 3, .int .i64 (k : Int)), (B + 1 + 1 + 1, 3, .int .i64 (mi : Int)), (C, 3, .int .i64 (e : Int)), (C + 1, 3, .int .i64 (Lm : Int)), (V.heap.size, 3, .int .i64 0)] (V.alloc (.cells #[.int .i64 0] 3))) := hA.add S 3 (.int .i64 0)
            obtain ⟨kc21, _⟩ := hA.get 8 rfl
            obtain ⟨kc15, _⟩ := hA.get 4 rfl
            obtain ⟨kd14, _⟩ := HB5.out.get 3 rfl
            have hnn : ((Lm : Int) != (Lm : Int)) = false := by simp
            clear hA hcm hdef2 HB2
            by_cases hl0 : Lm = 0
            · have hg0 : decide ((0 : Int) < (Lm : Int)) = false := by simp; omega
              have hg0' : decide (0 < Lm) = false := by simp; omega
              have hq : p = q := (hq0 hl0).1.symm
              subst hq
              have HMN : Hid (mat d 4096 p 273 = []) := by show _ = _; rw [HMS.out]; exact List.eq_nil_of_length_eq_zero (HLM.out.trans hl0)
              clear hq0 hq1 hl0
              go_wp2_with fail
              clear kc21 kc15 kd14
              have HNIL : Hid (mat d 4096 p 273 = []) := HMN.out
              have HIT3 : Hid _ := HIT.out γ2 p
              rw [HNIL.out, List.map_nil] at HIT3
              generalize V.alloc (.cells #[.int .i64 0] 3) = Vs at *
              generalize V.heap.size = C2 at *
              have HM7 : Hid (mp γ2 < Vs.heap.size ∧ mp δ < Vs.heap.size ∧ w0.heap.size ≤ Vs.heap.size) := ⟨(S.mpLt HB5.out.wb.two.f).2, (S.mpLt HB5.out.wb.two.g).2, HB5.out.wb.two.chg.size⟩
              refine wpIn_wide.1 (wp_rangeU (gf := gf) (lb := lb) rfl HEG.out HIT3.out rfl
                Ns (fun Ns j U => Calm Ns W1.heap.size Vs U ∧ WS Fin Sq foot w0 γ2 δ a b d p p (.func (.func gf) #[] lb) sf Ns wa ms [(w0.heap.size, 3, .int .i64 stop), (w0.heap.size + 1, 4, .bool false), (b7, 23, .pointer (some ⟨a, 0, none⟩)), (B, 42, .func (.func gf) #[] lb), (B + 1, 32, .slice wa Lm wc), (B + 1 + 1, 3, .int .i64 (k : Int)), (B + 1 + 1 + 1, 3, .int .i64 (mi : Int)), (C, 3, .int .i64 (e : Int)), (C + 1, 3, .int .i64 (Lm : Int)), (C2, 3, .int .i64 0)] (U)) (fun _ _ _ _ _ => False)
                (fun Ns j U U' h hc => ⟨h.1.turn hc (Nat.le_refl _), h.2.turn S hc HM7.out.2.2 HM7.out.1 HM7.out.2.1⟩)
                (fun _ _ _ _ _ h _ => h)
                (fun Ns Ns' X Y h hc g1 g2 g3 => ⟨(h.1.more h.1.size g2).trans (Calm.new hc), h.2.more S hc g2 g3⟩)
                (fun z f => (HB5.out.off z (.inr (.inl f))).1)
                (fun Ns U h => ⟨h.2.wb.two.f, h.2.sq⟩)
                (fun Ns j U h => ⟨γ2, p, S.refl γ2, h.2.wb.two.f, h.2.sq⟩)
                ⟨Calm.new (Chg.refl _ _), HB5.out⟩ (fun Ns l j hj => absurd hj (by simp)) (fun Ns l j hj => absurd hj (by simp)) ?_)
              rintro Ns D3 Vu _ hD3 ⟨hcu, hU⟩ hdef3
              have HU : Hid (WS Fin Sq foot w0 γ2 δ a b d p p (.func (.func gf) #[] lb) sf Ns wa ms [(w0.heap.size, 3, .int .i64 stop), (w0.heap.size + 1, 4, .bool false), (b7, 23, .pointer (some ⟨a, 0, none⟩)), (B, 42, .func (.func gf) #[] lb), (B + 1, 32, .slice wa Lm wc), (B + 1 + 1, 3, .int .i64 (k : Int)), (B + 1 + 1 + 1, 3, .int .i64 (mi : Int)), (C, 3, .int .i64 (e : Int)), (C + 1, 3, .int .i64 (Lm : Int)), (C2, 3, .int .i64 0)] (Vu)) := hU
              have HD3 : Hid (Vu.heap[D3]? = some (.deferred (some []))) := hdef3
              have HD2u : Hid (Vu.heap[D2]? = some (.deferred (some []))) := Calm.keep hcu (by have := HSW.out; omega) HD2.out rfl
              have HD1u : Hid (Vu.heap[D1]? = some (.deferred (some []))) := Calm.keep hcu hD1 HD1v.out rfl
              have HNE : Hid (D1 < D2 ∧ D2 < D3) := ⟨by have := lt_of_blk HDS.out; omega, by have := lt_of_blk HD2.out; omega⟩
              clear hU hdef3 hcu HD2 HD1v HB5
              go_wp2_with fail
              refine wp_region_phaseQ (mk := fun u => #[_, _, _, _, _, _, _, _, _, _, _, _, _, _, _, _, _, _, _, _, _, _, _, _, _, _, _, _, _, _, _, _, _, _, _, _, _, _, _, _, _, _, _, _, _, _, _, _, _, _, _, _, _, _, _, _, _, _, _, _, _, _, _, _, _, _, _, _, _, _, _, _, _, _, _, _, _, _, _, _, _, _, _, _, _, _, _, _, _, _, _, _, _, _, _, _, _, _, _, _, _, _, _, _, _, _, _, _, _, _, _, _, _, _, _, _, _, _, _, _, _, _, _, _, _, _, _, _, _, _, _, _, _, _, _, _, _, _, _, _, _, _, _, _, _, _, _, _, _, _, _, _, _, _, _, _, _, _, _, _, _, _, _, _, _, _, _, _, _, _, _, _, _, _, _, _, _, _, _, _, _, _, _, _, _, _, _, _, _, _, _, _, _, _, _, u 195, u 196, u 197, u 198, u 199, u 200, u 201, u 202, u 203, u 204, u 205, u 206, u 207, u 208, u 209, u 210, u 211, u 212, u 213]) (G := lookG [(195, .pointer (some ⟨a, 0, none⟩)), (196, .int .i64 (p : Int)), (197, .int .i64 (p : Int)), (198, .bool true), (199, .bool true), (200, .int .i64 0), (201, .bool true), (202, .bool true), (203, undef), (204, undef), (205, undef), (206, .bool true), (207, .bool true), (208, .bool true), (209, .pointer (some ⟨b, 0, none⟩)), (211, .slice wa Lm wc), (212, .bool true), (213, .bool true)]) (J := fun n u ww => WyJ Vu ms Lm n (u 210) ww) [1, 3, 4, 12, 13, 15, 17] (fun i =>  7) ([{ target := .collected D3, args := #[] }, { target := .collected D2, args := #[] }, { target := .collected D1, args := #[] }]) (fun _ => undef) rfl (by kernel_rfl) 19 _ rfl rfl (by kernel_rfl) (by kernel_rfl) (by kernel_rfl) (by decide) ?_ ?_ ?_ (by kernel_rfl) ?_ ?_
              · repeat (refine ⟨fun _ _ => rfl, ?_⟩)
                exact trivial
              · intro q u u2 ww h hj
                have e210 : u 210 = u2 210 := h 15 (by decide)
                show WyJ Vu ms Lm q (u2 210) ww
                rw [← e210]
                exact hj
              · exact (Chg.refl (fun _ => False) Vu).drew
              · refine ⟨?_, ?_, ?_, ?_, ?_, ?_, ?_, ?_, ?_, ?_, ?_, ?_, ?_, ?_, ?_, ?_, ?_, ?_, ?_, trivial⟩
                · show StepRQ _ _ _ _ _ _ _ _ _ -- 195
                  unfold StepRQ
                  intro q hq u w_ hj hd K hK
                  clear hd
                  obtain ⟨kc, _⟩ := (HU.out.new S (wyj_chg hj)).get 2 rfl
                  go_simp
                  exact hK.out _ rfl
                · show StepWQ _ _ _ _ _ _ _ _ _ -- 196
                  unfold StepWQ
                  intro u w_ hj hd K hK
                  have h195 : u 195 = .pointer (some ⟨a, 0, none⟩) := hd.get 0 (by kernel_rfl)
                  clear hd
                  simp only [h195] at hK
                  have hj : Chg (fun _ => False) Vu w_ := hj
                  go_simp
                  go_at_call 16
                  refine (S.pos γ2 w0.heap.size a d 4096 p w_ (S.new HU.out.wb.two.f hj)).mono ?_
                  rintro z w2 ⟨rfl, c2⟩
                  exact hK.out _ w2 (chg_then hj c2) rfl
                · show StepRQ _ _ _ _ _ _ _ _ _ -- 197
                  unfold StepRQ
                  intro q hq u w_ hj hd K hK
                  clear hd
                  go_simp
                  exact hK.out (.int .i64 (p : Int)) rfl
                · show StepWQ _ _ _ _ _ _ _ _ _ -- 198
                  unfold StepWQ
                  intro u w_ hj hd K hK
                  have h196 : u 196 = .int .i64 (p : Int) := hd.get 1 (by kernel_rfl)
                  have h197 : u 197 = .int .i64 (p : Int) := hd.get 2 (by kernel_rfl)
                  clear hd
                  simp only [h196, h197] at hK
                  go_simp
                  exact hK.out _ _ hj rfl
                · show StepWQ _ _ _ _ _ _ _ _ _ -- 199
                  unfold StepWQ
                  intro u w_ hj hd K hK
                  have h198 : u 198 = .bool true := hd.get 3 (by kernel_rfl)
                  clear hd
                  simp only [h198] at hK
                  go_simp
                  exact hK.out _ _ hj rfl
                · show StepRQ _ _ _ _ _ _ _ _ _ -- 200
                  unfold StepRQ
                  intro q hq u w_ hj hd K hK
                  have h199 : u 199 = .bool true := hd.get 4 (by kernel_rfl)
                  clear hd
                  simp only [h199] at hK
                  obtain ⟨kc, _⟩ := (HU.out.new S (wyj_chg hj)).get 9 rfl
                  go_simp
                  exact hK.out _ rfl
                · show StepRQ _ _ _ _ _ _ _ _ _ -- 201
                  unfold StepRQ
                  intro q hq u w_ hj hd K hK
                  have h200 : u 200 = .int .i64 0 := hd.get 5 (by kernel_rfl)
                  have h199 : u 199 = .bool true := hd.get 4 (by kernel_rfl)
                  clear hd
                  simp only [h200, h199] at hK
                  go_simp
                  exact hK.out (.bool true) rfl
                · show StepRQ _ _ _ _ _ _ _ _ _ -- 202
                  unfold StepRQ
                  intro q hq u w_ hj hd K hK
                  have h201 : u 201 = .bool true := hd.get 6 (by kernel_rfl)
                  have h199 : u 199 = .bool true := hd.get 4 (by kernel_rfl)
                  clear hd
                  simp only [h201, h199] at hK
                  go_simp
                  exact hK.out (.bool true) rfl
                · show StepRQ _ _ _ _ _ _ _ _ _ -- 203
                  unfold StepRQ
                  intro q hq u w_ hj hd K hK
                  have h202 : u 202 = .bool true := hd.get 7 (by kernel_rfl)
                  clear hd
                  simp only [h202] at hK
                  go_simp
                  exact hK.out (undef) rfl
                · show StepRQ _ _ _ _ _ _ _ _ _ -- 204
                  unfold StepRQ
                  intro q hq u w_ hj hd K hK
                  have h203 : u 203 = undef := hd.get 8 (by kernel_rfl)
                  have h202 : u 202 = .bool true := hd.get 7 (by kernel_rfl)
                  clear hd
                  simp only [h203, h202] at hK
                  go_simp
                  exact hK.out (undef) rfl
                · show StepRQ _ _ _ _ _ _ _ _ _ -- 205
                  unfold StepRQ
                  intro q hq u w_ hj hd K hK
                  have h204 : u 204 = undef := hd.get 9 (by kernel_rfl)
                  have h202 : u 202 = .bool true := hd.get 7 (by kernel_rfl)
                  clear hd
                  simp only [h204, h202] at hK
                  go_simp
                  exact hK.out (undef) rfl
                · show StepRQ _ _ _ _ _ _ _ _ _ -- 206
                  unfold StepRQ
                  intro q hq u w_ hj hd K hK
                  have h202 : u 202 = .bool true := hd.get 7 (by kernel_rfl)
                  have h205 : u 205 = undef := hd.get 10 (by kernel_rfl)
                  have h199 : u 199 = .bool true := hd.get 4 (by kernel_rfl)
                  clear hd
                  simp only [h202, h205, h199] at hK
                  go_simp
                  exact hK.out (.bool true) rfl
                · show StepWQ _ _ _ _ _ _ _ _ _ -- 207
                  unfold StepWQ
                  intro u w_ hj hd K hK
                  have h199 : u 199 = .bool true := hd.get 4 (by kernel_rfl)
                  have h206 : u 206 = .bool true := hd.get 11 (by kernel_rfl)
                  clear hd
                  simp only [h199, h206] at hK
                  go_simp
                  exact hK.out _ _ hj rfl
                · show StepWQ _ _ _ _ _ _ _ _ _ -- 208
                  unfold StepWQ
                  intro u w_ hj hd K hK
                  have h207 : u 207 = .bool true := hd.get 12 (by kernel_rfl)
                  clear hd
                  simp only [h207] at hK
                  go_simp
                  exact hK.out _ _ hj rfl
                · show StepRQ _ _ _ _ _ _ _ _ _ -- 209
                  unfold StepRQ
                  intro q hq u w_ hj hd K hK
                  have h208 : u 208 = .bool true := hd.get 13 (by kernel_rfl)
                  clear hd
                  simp only [h208] at hK
                  go_simp
                  exact hK.out (.pointer (some ⟨b, 0, none⟩)) rfl
                · show StepWQ _ _ _ _ _ _ _ _ _ -- 210
                  unfold StepWQ
                  intro u w_ hj hd K hK
                  have h209 : u 209 = .pointer (some ⟨b, 0, none⟩) := hd.get 14 (by kernel_rfl)
                  have h208 : u 208 = .bool true := hd.get 13 (by kernel_rfl)
                  clear hd
                  simp only [h209, h208] at hK
                  have hj : Chg (fun _ => False) Vu w_ := hj
                  go_simp
                  go_at_call 12
                  refine (HAL.out w_ (S.new HU.out.wb.two.g hj)).mono ?_
                  rintro z w2 ⟨v2, rfl, ho, c2⟩
                  obtain ⟨a2, d2, hv2⟩ := formN ho
                  exact hK.out v2 w2 ⟨chg_then hj c2, a2, d2, hv2, by rw [hv2] at ho; exact mrow_own ho⟩ trivial
                · show StepRQ _ _ _ _ _ _ _ _ _ -- 211
                  unfold StepRQ
                  intro q hq u w_ hj hd K hK
                  have h208 : u 208 = .bool true := hd.get 13 (by kernel_rfl)
                  clear hd
                  simp only [h208] at hK
                  obtain ⟨kc, _⟩ := (HU.out.new S (wyj_chg hj)).get 4 rfl
                  go_simp
                  exact hK.out _ rfl
                · show StepWQ _ _ _ _ _ _ _ _ _ -- 212
                  unfold StepWQ
                  intro u w_ hj hd K hK
                  have h211 : u 211 = .slice wa Lm wc := hd.get 16 (by kernel_rfl)
                  have h208 : u 208 = .bool true := hd.get 13 (by kernel_rfl)
                  clear hd
                  obtain ⟨hc, a1, d1, e210, hm1⟩ := hj
                  simp only [e210, h211, h208] at hK
                  go_simp
                  go_at_call 15
                  refine (same_q a1 wa d1 wc Lm ms w_ hm1 (HU.out.row.new hc) HLM.out (by omega)).mono ?_
                  rintro z w2 ⟨rfl, kk, rfl⟩
                  exact hK.out _ _ (chg_then hc (chg_drewN _ _)) rfl
                · show StepRQ _ _ _ _ _ _ _ _ _ -- 213
                  unfold StepRQ
                  intro q hq u w_ hj hd K hK
                  have h208 : u 208 = .bool true := hd.get 13 (by kernel_rfl)
                  have h212 : u 212 = .bool true := hd.get 17 (by kernel_rfl)
                  clear hd
                  simp only [h208, h212] at hK
                  go_simp
                  exact hK.out (.bool true) rfl
              · intro u w8 hj hA K hK
                have hj : Chg (fun _ => False) Vu w8 := hj
                have e213 : u 213 = .bool true := hA.at 213 (by kernel_rfl)
                have HU8 : Hid (WS Fin Sq foot w0 γ2 δ a b d p p (.func (.func gf) #[] lb) sf Ns wa ms [(w0.heap.size, 3, .int .i64 stop), (w0.heap.size + 1, 4, .bool false), (b7, 23, .pointer (some ⟨a, 0, none⟩)), (B, 42, .func (.func gf) #[] lb), (B + 1, 32, .slice wa Lm wc), (B + 1 + 1, 3, .int .i64 (k : Int)), (B + 1 + 1 + 1, 3, .int .i64 (mi : Int)), (C, 3, .int .i64 (e : Int)), (C + 1, 3, .int .i64 (Lm : Int)), (C2, 3, .int .i64 0)] (w8)) := HU.out.new S hj
                have HE3 : Hid (w8.heap[D3]? = some (.deferred (some []))) := blk_keep HD3.out hj (fun f => f)
                have HE2 : Hid (w8.heap[D2]? = some (.deferred (some []))) := blk_keep HD2u.out hj (fun f => f)
                have HE1 : Hid (w8.heap[D1]? = some (.deferred (some []))) := blk_keep HD1u.out hj (fun f => f)
                obtain ⟨kc6, kf6⟩ := HU8.out.get 1 rfl
                clear hA hj HU HD3 HD2u HD1u
                go_simp
                refine hK.out _ _ ?_
                clear hK e213 K
                have hb6 := HU8.out.wb.bxs.2 1 _ rfl
                have cS := chg_cell w8 (w0.heap.size + 1) (.bool true)
                have ne : ∀ {D : Nat}, w8.heap[D]? = some (.deferred (some [])) → ¬ D = w0.heap.size + 1 := fun h e => by
                  rw [e] at h
                  rw [show w8.heap[w0.heap.size + 1]? = _ from hb6] at h
                  cases h
                have n3 := ne HE3.out
                have n2 := ne HE2.out
                have n1 := ne HE1.out
                obtain ⟨n12, n23⟩ := HNE.out
                have k3 : (w8.setCell ⟨w0.heap.size + 1, 0, none⟩ (.bool true)).heap[D3]? = some (.deferred (some [])) := blk_keep HE3.out cS n3
                have k2 : ((w8.setCell ⟨w0.heap.size + 1, 0, none⟩ (.bool true)).putObj D3 (.deferred none)).heap[D2]? = some (.deferred (some [])) := (World.putObj_heap_other (by omega)).trans (blk_keep HE2.out cS n2)
                have k1 : (((w8.setCell ⟨w0.heap.size + 1, 0, none⟩ (.bool true)).putObj D3 (.deferred none)).putObj D2 (.deferred none)).heap[D1]? = some (.deferred (some [])) := (World.putObj_heap_other (by omega)).trans ((World.putObj_heap_other (by omega)).trans (blk_keep HE1.out cS n1))
                have hres0 : ((((w8.setCell ⟨w0.heap.size + 1, 0, none⟩ (.bool true)).putObj D3 (.deferred none)).putObj D2 (.deferred none)).putObj D1 (.deferred none)).heap[w0.heap.size + 1]? = some (.cells #[.bool true] 4 (0, 0)) := (World.putObj_heap_other (by omega)).trans ((World.putObj_heap_other (by omega)).trans ((World.putObj_heap_other (by omega)).trans (blk_set10 hb6)))
                have HRES : Hid (((((w8.setCell ⟨w0.heap.size + 1, 0, none⟩ (.bool true)).putObj D3 (.deferred none)).putObj D2 (.deferred none)).putObj D1 (.deferred none)).cell? ⟨w0.heap.size + 1, 0, none⟩ = some (.bool true)) := (cells1 hres0).1
                have HCE : Hid (Chg (fun _ => False) w0 ((((w8.setCell ⟨w0.heap.size + 1, 0, none⟩ (.bool true)).putObj D3 (.deferred none)).putObj D2 (.deferred none)).putObj D1 (.deferred none))) := by
                  have z0 := HU8.out.wb.two.chg
                  have z1 : Chg (fun _ => False) w0 (w8.setCell ⟨w0.heap.size + 1, 0, none⟩ (.bool true)) := z0.trans cS (fun z e => .inr (by omega))
                  have hw := HM8.out.2.2
                  have z2 : Chg (fun _ => False) w0 ((w8.setCell ⟨w0.heap.size + 1, 0, none⟩ (.bool true)).putObj D3 (.deferred none)) := z1.trans (chg_put _ D3 _) (fun z e => .inr (by omega))
                  have z3 : Chg (fun _ => False) w0 (((w8.setCell ⟨w0.heap.size + 1, 0, none⟩ (.bool true)).putObj D3 (.deferred none)).putObj D2 (.deferred none)) := z2.trans (chg_put _ D2 _) (fun z e => .inr (by omega))
                  exact z3.trans (chg_put _ D1 _) (fun z e => .inr (by omega))
                clear hb6 cS ne hres0
                go_wp2
                refine ⟨by simp, .inl ⟨_, _, rfl, run_takeDeferred k3, ?_⟩⟩
                refine ⟨by simp, .inl ⟨_, _, rfl, run_takeDeferred k2, ?_⟩⟩
                refine ⟨by simp, .inl ⟨_, _, rfl, run_takeDeferred k1, ?_⟩⟩
                have hres := HRES.out
                exact ⟨.bool true, by simp [results, Try.results5, go_sem, hres], rfl, HCE.out⟩
            · have hg0 : decide ((0 : Int) < (Lm : Int)) = true := by simp; omega
              have hg0' : decide (0 < Lm) = true := by simp; omega
              have hq : L = q := (hq1 (by omega)).symm
              subst hq
              have HMN : Hid (mat d 4096 L 273 = []) := by show _ = _; rw [← HDL.out]; exact mat_end d 4096 273
              clear hq0 hq1 hl0
              go_wp2_with fail
              clear kc21 kc15 kd14
              have HNIL : Hid (mat d 4096 L 273 = []) := HMN.out
              have HIT3 : Hid _ := HIT.out γ2 L
              rw [HNIL.out, List.map_nil] at HIT3
              generalize V.alloc (.cells #[.int .i64 0] 3) = Vs at *
              generalize V.heap.size = C2 at *
              have HM7 : Hid (mp γ2 < Vs.heap.size ∧ mp δ < Vs.heap.size ∧ w0.heap.size ≤ Vs.heap.size) := ⟨(S.mpLt HB5.out.wb.two.f).2, (S.mpLt HB5.out.wb.two.g).2, HB5.out.wb.two.chg.size⟩
              refine wpIn_wide.1 (wp_rangeU (gf := gf) (lb := lb) rfl HEG.out HIT3.out rfl
                Ns (fun Ns j U => Calm Ns W1.heap.size Vs U ∧ WS Fin Sq foot w0 γ2 δ a b d L p (.func (.func gf) #[] lb) sf Ns wa ms [(w0.heap.size, 3, .int .i64 stop), (w0.heap.size + 1, 4, .bool false), (b7, 23, .pointer (some ⟨a, 0, none⟩)), (B, 42, .func (.func gf) #[] lb), (B + 1, 32, .slice wa Lm wc), (B + 1 + 1, 3, .int .i64 (k : Int)), (B + 1 + 1 + 1, 3, .int .i64 (mi : Int)), (C, 3, .int .i64 (e : Int)), (C + 1, 3, .int .i64 (Lm : Int)), (C2, 3, .int .i64 0)] (U)) (fun _ _ _ _ _ => False)
                (fun Ns j U U' h hc => ⟨h.1.turn hc (Nat.le_refl _), h.2.turn S hc HM7.out.2.2 HM7.out.1 HM7.out.2.1⟩)
                (fun _ _ _ _ _ h _ => h)
                (fun Ns Ns' X Y h hc g1 g2 g3 => ⟨(h.1.more h.1.size g2).trans (Calm.new hc), h.2.more S hc g2 g3⟩)
                (fun z f => (HB5.out.off z (.inr (.inl f))).1)
                (fun Ns U h => ⟨h.2.wb.two.f, h.2.sq⟩)
                (fun Ns j U h => ⟨γ2, L, S.refl γ2, h.2.wb.two.f, h.2.sq⟩)
                ⟨Calm.new (Chg.refl _ _), HB5.out⟩ (fun Ns l j hj => absurd hj (by simp)) (fun Ns l j hj => absurd hj (by simp)) ?_)
              rintro Ns D3 Vu _ hD3 ⟨hcu, hU⟩ hdef3
              have HU : Hid (WS Fin Sq foot w0 γ2 δ a b d L p (.func (.func gf) #[] lb) sf Ns wa ms [(w0.heap.size, 3, .int .i64 stop), (w0.heap.size + 1, 4, .bool false), (b7, 23, .pointer (some ⟨a, 0, none⟩)), (B, 42, .func (.func gf) #[] lb), (B + 1, 32, .slice wa Lm wc), (B + 1 + 1, 3, .int .i64 (k : Int)), (B + 1 + 1 + 1, 3, .int .i64 (mi : Int)), (C, 3, .int .i64 (e : Int)), (C + 1, 3, .int .i64 (Lm : Int)), (C2, 3, .int .i64 0)] (Vu)) := hU
              have HD3 : Hid (Vu.heap[D3]? = some (.deferred (some []))) := hdef3
              have HD2u : Hid (Vu.heap[D2]? = some (.deferred (some []))) := Calm.keep hcu (by have := HSW.out; omega) HD2.out rfl
              have HD1u : Hid (Vu.heap[D1]? = some (.deferred (some []))) := Calm.keep hcu hD1 HD1v.out rfl
              have HNE : Hid (D1 < D2 ∧ D2 < D3) := ⟨by have := lt_of_blk HDS.out; omega, by have := lt_of_blk HD2.out; omega⟩
              clear hU hdef3 hcu HD2 HD1v HB5
              go_wp2_with fail
              refine wp_region_phaseQ (mk := fun u => #[_, _, _, _, _, _, _, _, _, _, _, _, _, _, _, _, _, _, _, _, _, _, _, _, _, _, _, _, _, _, _, _, _, _, _, _, _, _, _, _, _, _, _, _, _, _, _, _, _, _, _, _, _, _, _, _, _, _, _, _, _, _, _, _, _, _, _, _, _, _, _, _, _, _, _, _, _, _, _, _, _, _, _, _, _, _, _, _, _, _, _, _, _, _, _, _, _, _, _, _, _, _, _, _, _, _, _, _, _, _, _, _, _, _, _, _, _, _, _, _, _, _, _, _, _, _, _, _, _, _, _, _, _, _, _, _, _, _, _, _, _, _, _, _, _, _, _, _, _, _, _, _, _, _, _, _, _, _, _, _, _, _, _, _, _, _, _, _, _, _, _, _, _, _, _, _, _, _, _, _, _, _, _, _, _, _, _, _, _, _, _, _, _, _, _, u 195, u 196, u 197, u 198, u 199, u 200, u 201, u 202, u 203, u 204, u 205, u 206, u 207, u 208, u 209, u 210, u 211, u 212, u 213]) (G := lookG [(195, .pointer (some ⟨a, 0, none⟩)), (196, .int .i64 (L : Int)), (197, .int .i64 (L : Int)), (198, .bool true), (199, .bool true), (200, .int .i64 0), (201, .bool true), (202, .bool true), (203, undef), (204, undef), (205, undef), (206, .bool true), (207, .bool true), (208, .bool true), (209, .pointer (some ⟨b, 0, none⟩)), (211, .slice wa Lm wc), (212, .bool true), (213, .bool true)]) (J := fun n u ww => WyJ Vu ms Lm n (u 210) ww) [1, 3, 4, 12, 13, 15, 17] (fun i =>  7) ([{ target := .collected D3, args := #[] }, { target := .collected D2, args := #[] }, { target := .collected D1, args := #[] }]) (fun _ => undef) rfl (by kernel_rfl) 19 _ rfl rfl (by kernel_rfl) (by kernel_rfl) (by kernel_rfl) (by decide) ?_ ?_ ?_ (by kernel_rfl) ?_ ?_
              · repeat (refine ⟨fun _ _ => rfl, ?_⟩)
                exact trivial
              · intro q u u2 ww h hj
                have e210 : u 210 = u2 210 := h 15 (by decide)
                show WyJ Vu ms Lm q (u2 210) ww
                rw [← e210]
                exact hj
              · exact (Chg.refl (fun _ => False) Vu).drew
              · refine ⟨?_, ?_, ?_, ?_, ?_, ?_, ?_, ?_, ?_, ?_, ?_, ?_, ?_, ?_, ?_, ?_, ?_, ?_, ?_, trivial⟩
                · show StepRQ _ _ _ _ _ _ _ _ _ -- 195
                  unfold StepRQ
                  intro q hq u w_ hj hd K hK
                  clear hd
                  obtain ⟨kc, _⟩ := (HU.out.new S (wyj_chg hj)).get 2 rfl
                  go_simp
                  exact hK.out _ rfl
                · show StepWQ _ _ _ _ _ _ _ _ _ -- 196
                  unfold StepWQ
                  intro u w_ hj hd K hK
                  have h195 : u 195 = .pointer (some ⟨a, 0, none⟩) := hd.get 0 (by kernel_rfl)
                  clear hd
                  simp only [h195] at hK
                  have hj : Chg (fun _ => False) Vu w_ := hj
                  go_simp
                  go_at_call 16
                  refine (S.pos γ2 w0.heap.size a d 4096 L w_ (S.new HU.out.wb.two.f hj)).mono ?_
                  rintro z w2 ⟨rfl, c2⟩
                  exact hK.out _ w2 (chg_then hj c2) rfl
                · show StepRQ _ _ _ _ _ _ _ _ _ -- 197
                  unfold StepRQ
                  intro q hq u w_ hj hd K hK
                  clear hd
                  go_simp
                  exact hK.out (.int .i64 (L : Int)) rfl
                · show StepWQ _ _ _ _ _ _ _ _ _ -- 198
                  unfold StepWQ
                  intro u w_ hj hd K hK
                  have h196 : u 196 = .int .i64 (L : Int) := hd.get 1 (by kernel_rfl)
                  have h197 : u 197 = .int .i64 (L : Int) := hd.get 2 (by kernel_rfl)
                  clear hd
                  simp only [h196, h197] at hK
                  go_simp
                  exact hK.out _ _ hj rfl
                · show StepWQ _ _ _ _ _ _ _ _ _ -- 199
                  unfold StepWQ
                  intro u w_ hj hd K hK
                  have h198 : u 198 = .bool true := hd.get 3 (by kernel_rfl)
                  clear hd
                  simp only [h198] at hK
                  go_simp
                  exact hK.out _ _ hj rfl
                · show StepRQ _ _ _ _ _ _ _ _ _ -- 200
                  unfold StepRQ
                  intro q hq u w_ hj hd K hK
                  have h199 : u 199 = .bool true := hd.get 4 (by kernel_rfl)
                  clear hd
                  simp only [h199] at hK
                  obtain ⟨kc, _⟩ := (HU.out.new S (wyj_chg hj)).get 9 rfl
                  go_simp
                  exact hK.out _ rfl
                · show StepRQ _ _ _ _ _ _ _ _ _ -- 201
                  unfold StepRQ
                  intro q hq u w_ hj hd K hK
                  have h200 : u 200 = .int .i64 0 := hd.get 5 (by kernel_rfl)
                  have h199 : u 199 = .bool true := hd.get 4 (by kernel_rfl)
                  clear hd
                  simp only [h200, h199] at hK
                  go_simp
                  exact hK.out (.bool true) rfl
                · show StepRQ _ _ _ _ _ _ _ _ _ -- 202
                  unfold StepRQ
                  intro q hq u w_ hj hd K hK
                  have h201 : u 201 = .bool true := hd.get 6 (by kernel_rfl)
                  have h199 : u 199 = .bool true := hd.get 4 (by kernel_rfl)
                  clear hd
                  simp only [h201, h199] at hK
                  go_simp
                  exact hK.out (.bool true) rfl
                · show StepRQ _ _ _ _ _ _ _ _ _ -- 203
                  unfold StepRQ
                  intro q hq u w_ hj hd K hK
                  have h202 : u 202 = .bool true := hd.get 7 (by kernel_rfl)
                  clear hd
                  simp only [h202] at hK
                  go_simp
                  exact hK.out (undef) rfl
                · show StepRQ _ _ _ _ _ _ _ _ _ -- 204
                  unfold StepRQ
                  intro q hq u w_ hj hd K hK
                  have h203 : u 203 = undef := hd.get 8 (by kernel_rfl)
                  have h202 : u 202 = .bool true := hd.get 7 (by kernel_rfl)
                  clear hd
                  simp only [h203, h202] at hK
                  go_simp
                  exact hK.out (undef) rfl
                · show StepRQ _ _ _ _ _ _ _ _ _ -- 205
                  unfold StepRQ
                  intro q hq u w_ hj hd K hK
                  have h204 : u 204 = undef := hd.get 9 (by kernel_rfl)
                  have h202 : u 202 = .bool true := hd.get 7 (by kernel_rfl)
                  clear hd
                  simp only [h204, h202] at hK
                  go_simp
                  exact hK.out (undef) rfl
                · show StepRQ _ _ _ _ _ _ _ _ _ -- 206
                  unfold StepRQ
                  intro q hq u w_ hj hd K hK
                  have h202 : u 202 = .bool true := hd.get 7 (by kernel_rfl)
                  have h205 : u 205 = undef := hd.get 10 (by kernel_rfl)
                  have h199 : u 199 = .bool true := hd.get 4 (by kernel_rfl)
                  clear hd
                  simp only [h202, h205, h199] at hK
                  go_simp
                  exact hK.out (.bool true) rfl
                · show StepWQ _ _ _ _ _ _ _ _ _ -- 207
                  unfold StepWQ
                  intro u w_ hj hd K hK
                  have h199 : u 199 = .bool true := hd.get 4 (by kernel_rfl)
                  have h206 : u 206 = .bool true := hd.get 11 (by kernel_rfl)
                  clear hd
                  simp only [h199, h206] at hK
                  go_simp
                  exact hK.out _ _ hj rfl
                · show StepWQ _ _ _ _ _ _ _ _ _ -- 208
                  unfold StepWQ
                  intro u w_ hj hd K hK
                  have h207 : u 207 = .bool true := hd.get 12 (by kernel_rfl)
                  clear hd
                  simp only [h207] at hK
                  go_simp
                  exact hK.out _ _ hj rfl
                · show StepRQ _ _ _ _ _ _ _ _ _ -- 209
                  unfold StepRQ
                  intro q hq u w_ hj hd K hK
                  have h208 : u 208 = .bool true := hd.get 13 (by kernel_rfl)
                  clear hd
                  simp only [h208] at hK
                  go_simp
                  exact hK.out (.pointer (some ⟨b, 0, none⟩)) rfl
                · show StepWQ _ _ _ _ _ _ _ _ _ -- 210
                  unfold StepWQ
                  intro u w_ hj hd K hK
                  have h209 : u 209 = .pointer (some ⟨b, 0, none⟩) := hd.get 14 (by kernel_rfl)
                  have h208 : u 208 = .bool true := hd.get 13 (by kernel_rfl)
                  clear hd
                  simp only [h209, h208] at hK
                  have hj : Chg (fun _ => False) Vu w_ := hj
                  go_simp
                  go_at_call 12
                  refine (HAL.out w_ (S.new HU.out.wb.two.g hj)).mono ?_
                  rintro z w2 ⟨v2, rfl, ho, c2⟩
                  obtain ⟨a2, d2, hv2⟩ := formN ho
                  exact hK.out v2 w2 ⟨chg_then hj c2, a2, d2, hv2, by rw [hv2] at ho; exact mrow_own ho⟩ trivial
                · show StepRQ _ _ _ _ _ _ _ _ _ -- 211
                  unfold StepRQ
                  intro q hq u w_ hj hd K hK
                  have h208 : u 208 = .bool true := hd.get 13 (by kernel_rfl)
                  clear hd
                  simp only [h208] at hK
                  obtain ⟨kc, _⟩ := (HU.out.new S (wyj_chg hj)).get 4 rfl
                  go_simp
                  exact hK.out _ rfl
                · show StepWQ _ _ _ _ _ _ _ _ _ -- 212
                  unfold StepWQ
                  intro u w_ hj hd K hK
                  have h211 : u 211 = .slice wa Lm wc := hd.get 16 (by kernel_rfl)
                  have h208 : u 208 = .bool true := hd.get 13 (by kernel_rfl)
                  clear hd
                  obtain ⟨hc, a1, d1, e210, hm1⟩ := hj
                  simp only [e210, h211, h208] at hK
                  go_simp
                  go_at_call 15
                  refine (same_q a1 wa d1 wc Lm ms w_ hm1 (HU.out.row.new hc) HLM.out (by omega)).mono ?_
                  rintro z w2 ⟨rfl, kk, rfl⟩
                  exact hK.out _ _ (chg_then hc (chg_drewN _ _)) rfl
                · show StepRQ _ _ _ _ _ _ _ _ _ -- 213
                  unfold StepRQ
                  intro q hq u w_ hj hd K hK
                  have h208 : u 208 = .bool true := hd.get 13 (by kernel_rfl)
                  have h212 : u 212 = .bool true := hd.get 17 (by kernel_rfl)
                  clear hd
                  simp only [h208, h212] at hK
                  go_simp
                  exact hK.out (.bool true) rfl
              · intro u w8 hj hA K hK
                have hj : Chg (fun _ => False) Vu w8 := hj
                have e213 : u 213 = .bool true := hA.at 213 (by kernel_rfl)
                have HU8 : Hid (WS Fin Sq foot w0 γ2 δ a b d L p (.func (.func gf) #[] lb) sf Ns wa ms [(w0.heap.size, 3, .int .i64 stop), (w0.heap.size + 1, 4, .bool false), (b7, 23, .pointer (some ⟨a, 0, none⟩)), (B, 42, .func (.func gf) #[] lb), (B + 1, 32, .slice wa Lm wc), (B + 1 + 1, 3, .int .i64 (k : Int)), (B + 1 + 1 + 1, 3, .int .i64 (mi : Int)), (C, 3, .int .i64 (e : Int)), (C + 1, 3, .int .i64 (Lm : Int)), (C2, 3, .int .i64 0)] (w8)) := HU.out.new S hj
                have HE3 : Hid (w8.heap[D3]? = some (.deferred (some []))) := blk_keep HD3.out hj (fun f => f)
                have HE2 : Hid (w8.heap[D2]? = some (.deferred (some []))) := blk_keep HD2u.out hj (fun f => f)
                have HE1 : Hid (w8.heap[D1]? = some (.deferred (some []))) := blk_keep HD1u.out hj (fun f => f)
                obtain ⟨kc6, kf6⟩ := HU8.out.get 1 rfl
                clear hA hj HU HD3 HD2u HD1u
                go_simp
                refine hK.out _ _ ?_
                clear hK e213 K
                have hb6 := HU8.out.wb.bxs.2 1 _ rfl
                have cS := chg_cell w8 (w0.heap.size + 1) (.bool true)
                have ne : ∀ {D : Nat}, w8.heap[D]? = some (.deferred (some [])) → ¬ D = w0.heap.size + 1 := fun h e => by
                  rw [e] at h
                  rw [show w8.heap[w0.heap.size + 1]? = _ from hb6] at h
                  cases h
                have n3 := ne HE3.out
                have n2 := ne HE2.out
                have n1 := ne HE1.out
                obtain ⟨n12, n23⟩ := HNE.out
                have k3 : (w8.setCell ⟨w0.heap.size + 1, 0, none⟩ (.bool true)).heap[D3]? = some (.deferred (some [])) := blk_keep HE3.out cS n3
                have k2 : ((w8.setCell ⟨w0.heap.size + 1, 0, none⟩ (.bool true)).putObj D3 (.deferred none)).heap[D2]? = some (.deferred (some [])) := (World.putObj_heap_other (by omega)).trans (blk_keep HE2.out cS n2)
                have k1 : (((w8.setCell ⟨w0.heap.size + 1, 0, none⟩ (.bool true)).putObj D3 (.deferred none)).putObj D2 (.deferred none)).heap[D1]? = some (.deferred (some [])) := (World.putObj_heap_other (by omega)).trans ((World.putObj_heap_other (by omega)).trans (blk_keep HE1.out cS n1))
                have hres0 : ((((w8.setCell ⟨w0.heap.size + 1, 0, none⟩ (.bool true)).putObj D3 (.deferred none)).putObj D2 (.deferred none)).putObj D1 (.deferred none)).heap[w0.heap.size + 1]? = some (.cells #[.bool true] 4 (0, 0)) := (World.putObj_heap_other (by omega)).trans ((World.putObj_heap_other (by omega)).trans ((World.putObj_heap_other (by omega)).trans (blk_set10 hb6)))
                have HRES : Hid (((((w8.setCell ⟨w0.heap.size + 1, 0, none⟩ (.bool true)).putObj D3 (.deferred none)).putObj D2 (.deferred none)).putObj D1 (.deferred none)).cell? ⟨w0.heap.size + 1, 0, none⟩ = some (.bool true)) := (cells1 hres0).1
                have HCE : Hid (Chg (fun _ => False) w0 ((((w8.setCell ⟨w0.heap.size + 1, 0, none⟩ (.bool true)).putObj D3 (.deferred none)).putObj D2 (.deferred none)).putObj D1 (.deferred none))) := by
                  have z0 := HU8.out.wb.two.chg
                  have z1 : Chg (fun _ => False) w0 (w8.setCell ⟨w0.heap.size + 1, 0, none⟩ (.bool true)) := z0.trans cS (fun z e => .inr (by omega))
                  have hw := HM8.out.2.2
                  have z2 : Chg (fun _ => False) w0 ((w8.setCell ⟨w0.heap.size + 1, 0, none⟩ (.bool true)).putObj D3 (.deferred none)) := z1.trans (chg_put _ D3 _) (fun z e => .inr (by omega))
                  have z3 : Chg (fun _ => False) w0 (((w8.setCell ⟨w0.heap.size + 1, 0, none⟩ (.bool true)).putObj D3 (.deferred none)).putObj D2 (.deferred none)) := z2.trans (chg_put _ D2 _) (fun z e => .inr (by omega))
                  exact z3.trans (chg_put _ D1 _) (fun z e => .inr (by omega))
                clear hb6 cS ne hres0
                go_wp2
                refine ⟨by simp, .inl ⟨_, _, rfl, run_takeDeferred k3, ?_⟩⟩
                refine ⟨by simp, .inl ⟨_, _, rfl, run_takeDeferred k2, ?_⟩⟩
                refine ⟨by simp, .inl ⟨_, _, rfl, run_takeDeferred k1, ?_⟩⟩
                have hres := HRES.out
                exact ⟨.bool true, by simp [results, Try.results5, go_sem, hres], rfl, HCE.out⟩
        · have hb1 : ((k : Int) == (Lm : Int)) = false := by rw [beq_eq_false_iff_ne]; omega
          have hb2 : ((k : Int) == stop) = true := by rcases hks with e | e <;> simp [e] <;> omega
          have hn1 : ((k : Int) != (Lm : Int)) = true := by simp; omega
          have hn2 : ((k : Int) != stop) = false := by rcases hks with e | e <;> simp [e] <;> omega
          clear hks hkl
          go_wp2_with fail
          have cS : Chg (fun _ => False) W ((W.alloc (.cells #[.int .i64 (E : Int)] 3)).alloc (.cells #[.int .i64 0] 3)) := ((Chg.refl _ W).alloc _).alloc _
          have HDS : Hid (((W.alloc (.cells #[.int .i64 (E : Int)] 3)).alloc (.cells #[.int .i64 0] 3)).heap[D1]? = some (.deferred (some []))) := blk_keep hdef1 cS (fun f => f)
          clear hdef1 cS kc5 kc15 kc16 kc17 kd14 HA
          generalize (W.alloc (.cells #[.int .i64 (E : Int)] 3)).alloc (.cells #[.int .i64 0] 3) = Ws at *
          generalize W.heap.size = C at *
          have HM9 : Hid (mp γ < Ws.heap.size ∧ mp δ < Ws.heap.size ∧ w0.heap.size ≤ Ws.heap.size) := ⟨(S.mpLt HB2.out.wb.two.f).2, (S.mpLt HB2.out.wb.two.g).2, HB2.out.wb.two.chg.size⟩
          have HSW : Hid (W1.heap.size ≤ Ws.heap.size) := by have := lt_of_blk HDS.out; show _ ≤ _; omega
          refine wpIn_wide.1 (wp_rangeU (gf := gf) (lb := lb) rfl HEG.out HIT1.out rfl
            Ns (fun Ns j V => Calm Ns W1.heap.size Ws V ∧ ∃ (γ2 : Γ) (e q : Nat), le γ γ2 ∧ q + e = L ∧ (j = 0 → q = p ∧ γ2 = γ) ∧ (0 < j → q = L) ∧ WS Fin Sq foot w0 γ2 δ a b d q p (.func (.func gf) #[] lb) sf Ns wa ms [(w0.heap.size, 3, .int .i64 stop), (w0.heap.size + 1, 4, .bool false), (b7, 23, .pointer (some ⟨a, 0, none⟩)), (B, 42, .func (.func gf) #[] lb), (B + 1, 32, .slice wa Lm wc), (B + 1 + 1, 3, .int .i64 (k : Int)), (B + 1 + 1 + 1, 3, .int .i64 (mi : Int)), (C, 3, .int .i64 (e : Int)), (C + 1, 3, .int .i64 (j : Int))] (V))
            (fun T Ns j a₁ V => ∃ (bx : Nat) (m : Nat × Nat), ms[j]? = some m ∧ Calm Ns W1.heap.size Ws V ∧ (∃ (γ2 : Γ) (e q : Nat), (le γ γ2 ∧ q + e = L ∧ (j = 0 → q = p ∧ γ2 = γ) ∧ (0 < j → q = L) ∧ WS Fin Sq foot w0 γ2 δ a b d q p (.func (.func gf) #[] lb) sf Ns wa ms [(w0.heap.size, 3, .int .i64 stop), (w0.heap.size + 1, 4, .bool false), (b7, 23, .pointer (some ⟨a, 0, none⟩)), (B, 42, .func (.func gf) #[] lb), (B + 1, 32, .slice wa Lm wc), (B + 1 + 1, 3, .int .i64 (k : Int)), (B + 1 + 1 + 1, 3, .int .i64 (mi : Int)), (C, 3, .int .i64 (e : Int)), (C + 1, 3, .int .i64 (j : Int))] (V)) ∧ ¬ foot γ2 bx) ∧ V.heap[bx]? = some (.cells #[.int .i64 (m.1 : Int), .int .i64 (m.2 : Int)] 30 (0, 0)) ∧ a₁ = { tmps := (T.setIfInBounds 159 (mval m)).setIfInBounds 22 (.pointer (some ⟨bx, 0, none⟩)), defers := [] })
            (fun Ns j V V' h hc => by
              obtain ⟨h0, γ2, e, q, h1, h2, h3, h4, h5⟩ := h
              exact ⟨h0.turn hc (Nat.le_refl _), γ2, e, q, h1, h2, h3, h4, h5.turn S hc HM9.out.2.2 (by rw [S.mpEq h1]; exact HM9.out.1) HM9.out.2.1⟩)
            (fun Ns j a₁ V V' h hc => by
              obtain ⟨bx, m, hm, h0, ⟨γ2, e, q, ⟨h1, h2, h3, h4, h5⟩, h6⟩, h7, h8⟩ := h
              exact ⟨bx, m, hm, h0.turn hc (Nat.le_refl _), ⟨γ2, e, q, ⟨h1, h2, h3, h4, h5.turn S hc HM9.out.2.2 (by rw [S.mpEq h1]; exact HM9.out.1) HM9.out.2.1⟩, h6⟩, hc.cells h7, h8⟩)
            (fun Ns Ns' X Y h hc g1 g2 g3 => by
              obtain ⟨h0, γ2, e, q, h1, h2, h3, h4, h5⟩ := h
              exact ⟨(h0.more h0.size g2).trans (Calm.new hc), γ2, e, q, h1, h2, h3, h4, h5.more S hc g2 g3⟩)
            (fun z f => (HB2.out.off z (.inr (.inl f))).1)
            (fun Ns V h => by
              obtain ⟨h0, γ2, e, q, h1, h2, h3, h4, h5⟩ := h
              obtain ⟨e1, e2⟩ := h3 rfl
              rw [e1, e2] at h5
              exact ⟨h5.wb.two.f, h5.sq⟩)
            (fun Ns j V h => by
              obtain ⟨h0, γ2, e, q, h1, h2, h3, h4, h5⟩ := h
              exact ⟨γ2, q, h1, h5.wb.two.f, h5.sq⟩)
            ⟨Calm.new (Chg.refl _ _), γ, E, p, S.refl γ, HE.out, fun _ => ⟨rfl, rfl⟩, fun h => by omega, HB2.out⟩ ?_ ?_ ?_)
          · rintro Ns l j hj V ⟨hcm, γ2, e, q, hR⟩ K hK
            have hjm : j < ms.length := by simpa using hj
            have hv : (ms.map mval)[j] = mval ms[j] := by simp
            rw [hv]
            unfold mval
            have HR : Hid (le γ γ2 ∧ q + e = L ∧ (j = 0 → q = p ∧ γ2 = γ) ∧ (0 < j → q = L) ∧ WS Fin Sq foot w0 γ2 δ a b d q p (.func (.func gf) #[] lb) sf Ns wa ms [(w0.heap.size, 3, .int .i64 stop), (w0.heap.size + 1, 4, .bool false), (b7, 23, .pointer (some ⟨a, 0, none⟩)), (B, 42, .func (.func gf) #[] lb), (B + 1, 32, .slice wa Lm wc), (B + 1 + 1, 3, .int .i64 (k : Int)), (B + 1 + 1 + 1, 3, .int .i64 (mi : Int)), (C, 3, .int .i64 (e : Int)), (C + 1, 3, .int .i64 (j : Int))] (V)) := hR
            have HCM : Hid (Calm Ns W1.heap.size Ws V) := hcm
            clear hR hcm
            gi_wp2
            obtain ⟨h1, h2, h3, h4, h5⟩ := HR.out
            exact hK _ _ ⟨V.heap.size, ms[j], List.getElem?_eq_getElem hjm, HCM.out.trans (Calm.new (chg_one _ _)), ⟨γ2, e, q, ⟨h1, h2, h3, h4, h5.new S (chg_one _ _)⟩, fun f => by have := (S.lt h5.wb.two.f _ f).2; omega⟩, heap_alloc_last _ _, by simp only [mval, List.setIfInBounds_toArray, List.set_cons_succ, List.set_cons_zero]⟩ (Calm.new (chg_one _ _))
          · skip
            rintro Ns l j hj a₁ V hBl hrec ⟨bx, m, hmj, hcm, ⟨γ2, e, q, ⟨hle, hqe, hq0, hq1, hA⟩, hnf⟩, hbx, rfl⟩
            simp only [List.setIfInBounds_toArray, List.set_cons_succ, List.set_cons_zero]
            have hjm : j < ms.length := by simpa using hj
            have hjL : j < Lm := by have := HLM.out; omega
            obtain ⟨g, hwg, _, _⟩ := hA.row j m hmj
            subst hwg
            have hge : decide ((Lm : Int) ≤ (j : Int)) = false := by simp; omega
            have hge' : decide (Lm ≤ j) = false := by simp; omega
            have hji : (j : Int) ≤ 32 := by omega
            have hei : (e : Int) ≤ 140737488351232 := by omega
            have HA : Hid (WS Fin Sq foot w0 γ2 δ a b d q p (.func (.func gf) #[] lb) sf Ns (some ⟨g, 0, none⟩) ms [(w0.heap.size, 3, .int .i64 stop), (w0.heap.size + 1, 4, .bool false), (b7, 23, .pointer (some ⟨a, 0, none⟩)), (B, 42, .func (.func gf) #[] lb), (B + 1, 32, .slice (some ⟨g, 0, none⟩) Lm wc), (B + 1 + 1, 3, .int .i64 (k : Int)), (B + 1 + 1 + 1, 3, .int .i64 (mi : Int)), (C, 3, .int .i64 (e : Int)), (C + 1, 3, .int .i64 (j : Int))] (V)) := hA
            have HCM : Hid (Calm Ns W1.heap.size Ws V) := hcm
            have HMJ : Hid (ms[j]? = some m) := hmj
            have HBX : Hid (V.heap[bx]? = some (.cells #[.int .i64 (m.1 : Int), .int .i64 (m.2 : Int)] 30 (0, 0))) := hbx
            have HNF : Hid (¬ foot γ2 bx) := hnf
            have HQE : Hid (q + e = L) := hqe
            have HLE : Hid (le γ γ2) := hle
            have HMB : Hid (mp γ2 < W1.heap.size ∧ mp γ2 < Ws.heap.size) := by
              have h1 := S.mpEq hle
              rw [h1]
              exact ⟨HM8.out.1, HM9.out.1⟩
            unfold mval
            clear hA hcm hmj hbx hnf hle hq0 hq1 hrec
            gi_wp2
            refine wpIn_region_phase (mk := fun u => #[_, _, _, _, _, _, _, _, _, _, _, _, _, _, _, _, _, _, _, _, _, _, _, _, _, _, _, _, _, _, _, _, _, _, _, _, _, _, _, _, _, _, _, _, _, _, _, _, _, _, _, _, _, _, _, _, _, _, _, _, _, _, _, _, _, _, _, _, _, _, _, _, _, _, _, _, _, _, _, _, _, _, _, _, _, _, _, _, _, _, _, _, _, _, _, _, _, _, _, _, _, _, _, _, _, _, _, _, _, _, _, _, _, _, _, _, _, _, _, _, _, _, _, _, _, _, _, _, _, _, _, _, _, _, _, _, _, _, _, _, _, _, _, _, _, _, _, _, _, _, _, _, _, _, _, _, _, _, _, _, u 160, u 161, u 162, u 163, u 164, u 165, u 166, u 167, u 168, u 169, u 170, u 171, u 172, u 173, u 174, u 175, u 176, u 177, _, _, _, _, _, _, _, _, _, _, _, _, _, _, _, _, _, _, _, _, _, _, _, _, _, _, _, _, _, _, _, _, _, _, _, _]) (G := lookG [(160, .int .i64 (j : Int)), (161, .slice (some ⟨g, 0, none⟩) Lm wc), (162, .int .i64 (Lm : Int)), (163, .bool false), (164, .bool false), (165, .agg #[.int .i64 (m.1 : Int), .int .i64 (m.2 : Int)]), (166, .slice (some ⟨g, 0, none⟩) Lm wc), (167, .int .i64 (j : Int)), (168, .pointer (some ⟨g, j * 2, none⟩)), (169, .agg #[.int .i64 (m.1 : Int), .int .i64 (m.2 : Int)]), (170, .bool false), (171, .bool false), (172, .bool false), (173, .pointer (some ⟨a, 0, none⟩)), (174, .int .i64 (e : Int)), (175, .int .i64 0), (176, .int .i64 0), (177, .bool false)]) (J := fun n _ ww => ww.heap[bx]? = some (.cells #[.int .i64 (m.1 : Int), .int .i64 (m.2 : Int)] 30 (0, 0)) ∧ ∃ (γ3 : Γ) (q3 : Nat), le γ2 γ3 ∧ (n = 0 → γ2 = γ3 ∧ q = q3) ∧ (0 < n → L = q3) ∧ Calm Ns W1.heap.size V ww ∧ Calm Ns Ws.heap.size V ww ∧ WS Fin Sq foot w0 γ3 δ a b d q3 p (.func (.func gf) #[] lb) sf Ns (some ⟨g, 0, none⟩) ms [(w0.heap.size, 3, .int .i64 stop), (w0.heap.size + 1, 4, .bool false), (b7, 23, .pointer (some ⟨a, 0, none⟩)), (B, 42, .func (.func gf) #[] lb), (B + 1, 32, .slice (some ⟨g, 0, none⟩) Lm wc), (B + 1 + 1, 3, .int .i64 (k : Int)), (B + 1 + 1 + 1, 3, .int .i64 (mi : Int)), (C, 3, .int .i64 (e : Int)), (C + 1, 3, .int .i64 (j : Int))] (ww)) [15, 16] (fun _ => undef) rfl (by kernel_rfl) 18 _ rfl rfl (by kernel_rfl) (by kernel_rfl) (by kernel_rfl) (by decide) (by kernel_rfl) (by rintro ⟨_, _, hh⟩; exact hh) ?_ ?_ ?_ ?_ ?_
            · repeat (refine ⟨⟨_, rfl, fun _ _ => rfl⟩, ?_⟩)
              exact trivial
            · exact fun q u u2 ww _ h => h
            · have cD : Chg (fun _ => False) V V.drew := (Chg.refl _ V).drew
              exact ⟨blk_keep HBX.out cD (fun f => f), γ2, q, S.refl γ2, fun _ => ⟨rfl, rfl⟩, fun h => by omega, Calm.new cD, Calm.new cD, HA.out.new S cD⟩
            · refine ⟨?_, ?_, ?_, ?_, ?_, ?_, ?_, ?_, ?_, ?_, ?_, ?_, ?_, ?_, ?_, ?_, ?_, ?_, trivial⟩
              · show StepR _ _ _ _ _ _  _ -- 160
                unfold StepR
                intro q u w_ hj hd K hK
                clear hd
                obtain ⟨hb, γ3, q3, hl3, h30, h31, hc1, hc2, hws⟩ := hj
                obtain ⟨kc, _⟩ := hws.get 8 rfl
                clear hb hl3 h30 h31 hc1 hc2 hws
                go_simp
                exact hK.out _ rfl
              · show StepR _ _ _ _ _ _  _ -- 161
                unfold StepR
                intro q u w_ hj hd K hK
                clear hd
                obtain ⟨hb, γ3, q3, hl3, h30, h31, hc1, hc2, hws⟩ := hj
                obtain ⟨kc, _⟩ := hws.get 4 rfl
                clear hb hl3 h30 h31 hc1 hc2 hws
                go_simp
                exact hK.out _ rfl
              · show StepR _ _ _ _ _ _  _ -- 162
                unfold StepR
                intro q u w_ hj hd K hK
                have h161 : u 161 = .slice (some ⟨g, 0, none⟩) Lm wc := hd.get 1 (by kernel_rfl)
                clear hd
                simp only [h161] at hK
                go_simp
                exact hK.out (.int .i64 (Lm : Int)) rfl
              · show StepR _ _ _ _ _ _  _ -- 163
                unfold StepR
                intro q u w_ hj hd K hK
                have h160 : u 160 = .int .i64 (j : Int) := hd.get 0 (by kernel_rfl)
                have h162 : u 162 = .int .i64 (Lm : Int) := hd.get 2 (by kernel_rfl)
                clear hd
                simp only [h160, h162] at hK
                go_simp
                exact hK.out (.bool false) rfl
              · show StepR _ _ _ _ _ _  _ -- 164
                unfold StepR
                intro q u w_ hj hd K hK
                have h163 : u 163 = .bool false := hd.get 3 (by kernel_rfl)
                clear hd
                simp only [h163] at hK
                go_simp
                exact hK.out (.bool false) rfl
              · show StepR _ _ _ _ _ _  _ -- 165
                unfold StepR
                intro q u w_ hj hd K hK
                have h164 : u 164 = .bool false := hd.get 4 (by kernel_rfl)
                clear hd
                simp only [h164] at hK
                obtain ⟨hb, γ3, q3, hl3, h30, h31, hc1, hc2, hws⟩ := hj
                have hca := cell0 hb
                have hcb := cell1 hb
                clear hl3 h30 h31 hc1 hc2 hws
                go_simp
                exact hK.out _ rfl
              · show StepR _ _ _ _ _ _  _ -- 166
                unfold StepR
                intro q u w_ hj hd K hK
                have h164 : u 164 = .bool false := hd.get 4 (by kernel_rfl)
                clear hd
                simp only [h164] at hK
                obtain ⟨hb, γ3, q3, hl3, h30, h31, hc1, hc2, hws⟩ := hj
                obtain ⟨kc, _⟩ := hws.get 4 rfl
                clear hb hl3 h30 h31 hc1 hc2 hws
                go_simp
                exact hK.out _ rfl
              · show StepR _ _ _ _ _ _  _ -- 167
                unfold StepR
                intro q u w_ hj hd K hK
                have h164 : u 164 = .bool false := hd.get 4 (by kernel_rfl)
                clear hd
                simp only [h164] at hK
                obtain ⟨hb, γ3, q3, hl3, h30, h31, hc1, hc2, hws⟩ := hj
                obtain ⟨kc, _⟩ := hws.get 8 rfl
                clear hb hl3 h30 h31 hc1 hc2 hws
                go_simp
                exact hK.out _ rfl
              · show StepR _ _ _ _ _ _  _ -- 168
                unfold StepR
                intro q u w_ hj hd K hK
                have h166 : u 166 = .slice (some ⟨g, 0, none⟩) Lm wc := hd.get 6 (by kernel_rfl)
                have h167 : u 167 = .int .i64 (j : Int) := hd.get 7 (by kernel_rfl)
                have h164 : u 164 = .bool false := hd.get 4 (by kernel_rfl)
                clear hd
                simp only [h166, h167, h164] at hK
                go_simp
                exact hK.out (.pointer (some ⟨g, j * 2, none⟩)) rfl
              · show StepR _ _ _ _ _ _  _ -- 169
                unfold StepR
                intro q u w_ hj hd K hK
                have h168 : u 168 = .pointer (some ⟨g, j * 2, none⟩) := hd.get 8 (by kernel_rfl)
                have h164 : u 164 = .bool false := hd.get 4 (by kernel_rfl)
                clear hd
                simp only [h168, h164] at hK
                obtain ⟨hb, γ3, q3, hl3, h30, h31, hc1, hc2, hws⟩ := hj
                obtain ⟨g3, hg3, hx1, hx2⟩ := hws.row j m HMJ.out
                obtain rfl : g = g3 := by simpa using hg3
                clear hb hl3 h30 h31 hc1 hc2 hws
                go_simp
                exact hK.out _ rfl
              · show StepR _ _ _ _ _ _  _ -- 170
                unfold StepR
                intro q u w_ hj hd K hK
                have h165 : u 165 = .agg #[.int .i64 (m.1 : Int), .int .i64 (m.2 : Int)] := hd.get 5 (by kernel_rfl)
                have h169 : u 169 = .agg #[.int .i64 (m.1 : Int), .int .i64 (m.2 : Int)] := hd.get 9 (by kernel_rfl)
                have h164 : u 164 = .bool false := hd.get 4 (by kernel_rfl)
                clear hd
                simp only [h165, h169, h164] at hK
                go_simp
                exact hK.out (.bool false) rfl
              · show StepR _ _ _ _ _ _  _ -- 171
                unfold StepR
                intro q u w_ hj hd K hK
                have h164 : u 164 = .bool false := hd.get 4 (by kernel_rfl)
                have h170 : u 170 = .bool false := hd.get 10 (by kernel_rfl)
                clear hd
                simp only [h164, h170] at hK
                go_simp
                exact hK.out (.bool false) rfl
              · show StepR _ _ _ _ _ _  _ -- 172
                unfold StepR
                intro q u w_ hj hd K hK
                have h171 : u 171 = .bool false := hd.get 11 (by kernel_rfl)
                clear hd
                simp only [h171] at hK
                go_simp
                exact hK.out (.bool false) rfl
              · show StepR _ _ _ _ _ _  _ -- 173
                unfold StepR
                intro q u w_ hj hd K hK
                have h172 : u 172 = .bool false := hd.get 12 (by kernel_rfl)
                clear hd
                simp only [h172] at hK
                obtain ⟨hb, γ3, q3, hl3, h30, h31, hc1, hc2, hws⟩ := hj
                obtain ⟨kc, _⟩ := hws.get 2 rfl
                clear hb hl3 h30 h31 hc1 hc2 hws
                go_simp
                exact hK.out _ rfl
              · show StepR _ _ _ _ _ _  _ -- 174
                unfold StepR
                intro q u w_ hj hd K hK
                have h172 : u 172 = .bool false := hd.get 12 (by kernel_rfl)
                clear hd
                simp only [h172] at hK
                obtain ⟨hb, γ3, q3, hl3, h30, h31, hc1, hc2, hws⟩ := hj
                obtain ⟨kc, _⟩ := hws.get 7 rfl
                clear hb hl3 h30 h31 hc1 hc2 hws
                go_simp
                exact hK.out _ rfl
              · show StepW _ _ _ _ _ _ 0 _ -- 175
                unfold StepW
                intro u w_ hj hd K hK
                have h173 : u 173 = .pointer (some ⟨a, 0, none⟩) := hd.get 13 (by kernel_rfl)
                have h174 : u 174 = .int .i64 (e : Int) := hd.get 14 (by kernel_rfl)
                have h172 : u 172 = .bool false := hd.get 12 (by kernel_rfl)
                clear hd
                simp only [h173, h174, h172] at hK
                obtain ⟨hb, γ3, q3, hl3, h30, h31, hc1, hc2, hws⟩ := hj
                obtain ⟨rfl, rfl⟩ := h30 rfl
                go_simp
                go_at_call 13
                refine (S.skipIn γ2 w0.heap.size a d 4096 q e w_ hws.wb.two.f hws.wb.two.chg.size (by have := HDL.out; omega)).mono ?_
                rintro z w2 ⟨rfl, γ4, hf, hn⟩
                exact hK.out _ w2 ⟨blk_keep hb hf.chg HNF.out, γ4, q + e, hf.le, fun h => by omega, fun _ => HQE.out.symm, hc1.trans (hws.calmF S hf (HMB.out.1)), hc2.trans (hws.calmF S hf (HMB.out.2)), hws.skip S hf hn⟩ rfl
              · show StepW _ _ _ _ _ _ 1 _ -- 176
                unfold StepW
                intro u w_ hj hd K hK
                have h175 : u 175 = .int .i64 0 := hd.get 15 (by kernel_rfl)
                have h172 : u 172 = .bool false := hd.get 12 (by kernel_rfl)
                clear hd
                simp only [h175, h172] at hK
                obtain ⟨hb, γ3, q3, hl3, h30, h31, hc1, hc2, hws⟩ := hj
                have H31 : Hid (L = q3) := h31 (by omega)
                clear h30 h31
                go_simp
                go_at_call 9
                refine (num_any _ _).mono ?_
                rintro z w2 ⟨rfl, rfl⟩
                exact hK.out _ w_ ⟨hb, γ3, q3, hl3, fun h => by omega, fun _ => H31.out, hc1, hc2, hws⟩ rfl
              · show StepR _ _ _ _ _ _  _ -- 177
                unfold StepR
                intro q u w_ hj hd K hK
                have h176 : u 176 = .int .i64 0 := hd.get 16 (by kernel_rfl)
                have h172 : u 172 = .bool false := hd.get 12 (by kernel_rfl)
                clear hd
                simp only [h176, h172] at hK
                go_simp
                exact hK.out (.bool false) rfl
            · intro u w5 hj hA K hK
              obtain ⟨hb, γ3, q3, hl3, h30, h31, hc1, hc2, hws⟩ := hj
              obtain rfl : L = q3 := h31 (by decide)
              have e172 : u 172 = .bool false := hA.at 172 (by kernel_rfl)
              have e177 : u 177 = .bool false := hA.at 177 (by kernel_rfl)
              have HW5 : Hid (WS Fin Sq foot w0 γ3 δ a b d L p (.func (.func gf) #[] lb) sf Ns (some ⟨g, 0, none⟩) ms [(w0.heap.size, 3, .int .i64 stop), (w0.heap.size + 1, 4, .bool false), (b7, 23, .pointer (some ⟨a, 0, none⟩)), (B, 42, .func (.func gf) #[] lb), (B + 1, 32, .slice (some ⟨g, 0, none⟩) Lm wc), (B + 1 + 1, 3, .int .i64 (k : Int)), (B + 1 + 1 + 1, 3, .int .i64 (mi : Int)), (C, 3, .int .i64 (e : Int)), (C + 1, 3, .int .i64 (j : Int))] (w5)) := hws
              have HC5 : Hid (Calm Ns W1.heap.size V w5 ∧ Calm Ns Ws.heap.size V w5) := ⟨hc1, hc2⟩
              have HL5 : Hid (le γ2 γ3) := hl3
              clear hA hb hl3 h30 h31 hc1 hc2 hws HA
              go_simp
              refine hK.out _ _ ?_
              clear hK e172 e177 K
              have HW6 : Hid (WS Fin Sq foot w0 γ3 δ a b d L p (.func (.func gf) #[] lb) sf Ns (some ⟨g, 0, none⟩) ms [(w0.heap.size, 3, .int .i64 stop), (w0.heap.size + 1, 4, .bool false), (b7, 23, .pointer (some ⟨a, 0, none⟩)), (B, 42, .func (.func gf) #[] lb), (B + 1, 32, .slice (some ⟨g, 0, none⟩) Lm wc), (B + 1 + 1, 3, .int .i64 (k : Int)), (B + 1 + 1 + 1, 3, .int .i64 (mi : Int)), (C, 3, .int .i64 (e : Int)), (C + 1, 3, .int .i64 ((j : Int) + 1))] (w5.setCell ⟨C + 1, 0, none⟩ (.int .i64 ((j : Int) + 1)))) := HW5.out.set S 8 rfl _
              have HW7 : Hid (WS Fin Sq foot w0 γ3 δ a b d L p (.func (.func gf) #[] lb) sf Ns (some ⟨g, 0, none⟩) ms [(w0.heap.size, 3, .int .i64 stop), (w0.heap.size + 1, 4, .bool false), (b7, 23, .pointer (some ⟨a, 0, none⟩)), (B, 42, .func (.func gf) #[] lb), (B + 1, 32, .slice (some ⟨g, 0, none⟩) Lm wc), (B + 1 + 1, 3, .int .i64 (k : Int)), (B + 1 + 1 + 1, 3, .int .i64 (mi : Int)), (C, 3, .int .i64 0), (C + 1, 3, .int .i64 ((j : Int) + 1))] ((w5.setCell ⟨C + 1, 0, none⟩ (.int .i64 ((j : Int) + 1))).setCell ⟨C, 0, none⟩ (.int .i64 0))) := HW6.out.set S 7 rfl _
              have HC7 : Hid (Calm Ns W1.heap.size V ((w5.setCell ⟨C + 1, 0, none⟩ (.int .i64 ((j : Int) + 1))).setCell ⟨C, 0, none⟩ (.int .i64 0)) ∧ Calm Ns Ws.heap.size V ((w5.setCell ⟨C + 1, 0, none⟩ (.int .i64 ((j : Int) + 1))).setCell ⟨C, 0, none⟩ (.int .i64 0))) := ⟨(HC5.out.1.trans (HW5.out.calm 8 rfl _ _)).trans (HW6.out.calm 7 rfl _ _), (HC5.out.2.trans (HW5.out.calm 8 rfl _ _)).trans (HW6.out.calm 7 rfl _ _)⟩
              obtain ⟨kc21, kf21⟩ := HW5.out.get 8 rfl
              obtain ⟨kc20, kf20⟩ := HW6.out.get 7 rfl
              clear HW5 HW6 HC5
              gi_wp2
              exact ⟨HC7.out.2, HCM.out.trans HC7.out.1, γ3, 0, L, S.trans HLE.out HL5.out, rfl, fun h => by omega, fun _ => rfl, HW7.out⟩
          · skip
            rintro Ns D2 V _ hD2 ⟨hcm, γ2, e, q, hle, hqe, hq0, hq1, hA⟩ hdef2
            rw [List.length_map, HLM.out] at hq0 hq1 hA
            have HD1v : Hid ((V.alloc (.cells #[.int .i64 0] 3)).heap[D1]? = some (.deferred (some []))) := blk_keep (Calm.keep hcm hD1 HDS.out rfl) (chg_one _ _) (fun f => f)
            have HD2 : Hid ((V.alloc (.cells #[.int .i64 0] 3)).heap[D2]? = some (.deferred (some []))) := blk_keep hdef2 (chg_one _ _) (fun f => f)
            have HB5 : Hid (WS Fin Sq foot w0 γ2 δ a b d q p (.func (.func gf) #[] lb) sf Ns wa ms [(w0.heap.size, 3, .int .i64 stop), (w0.heap.size + 1, 4, .bool false), (b7, 23, .pointer (some ⟨a, 0, none⟩)), (B, 42, .func (.func gf) #[] lb), (B + 1, 32, .slice wa Lm wc), (B + 1 + 1, 3, .int .i64 (k : Int)), (B + 1 + 1 + 1, 3, .int .i64 (mi : Int)), (C, 3, .int .i64 (e : Int)), (C + 1, 3, .int .i64 (Lm : Int)), (V.heap.size, 3, .int .i64 0)] (V.alloc (.cells #[.int .i64 0] 3))) := hA.add S 3 (.int .i64 0)
            obtain ⟨kc21, _⟩ := hA.get 8 rfl
            obtain ⟨kc15, _⟩ := hA.get 4 rfl
            obtain ⟨kd14, _⟩ := HB5.out.get 3 rfl
            have hnn : ((Lm : Int) != (Lm : Int)) = false := by simp
            clear hA hcm hdef2 HB2
            by_cases hl0 : Lm = 0
            · have hg0 : decide ((0 : Int) < (Lm : Int)) = false := by simp; omega
              have hg0' : decide (0 < Lm) = false := by simp; omega
              have hq : p = q := (hq0 hl0).1.symm
              subst hq
              have HMN : Hid (mat d 4096 p 273 = []) := by show _ = _; rw [HMS.out]; exact List.eq_nil_of_length_eq_zero (HLM.out.trans hl0)
              clear hq0 hq1 hl0
              go_wp2_with fail
              clear kc21 kc15 kd14
              have HNIL : Hid (mat d 4096 p 273 = []) := HMN.out
              have HIT3 : Hid _ := HIT.out γ2 p
              rw [HNIL.out, List.map_nil] at HIT3
              generalize V.alloc (.cells #[.int .i64 0] 3) = Vs at *
              generalize V.heap.size = C2 at *
              have HM7 : Hid (mp γ2 < Vs.heap.size ∧ mp δ < Vs.heap.size ∧ w0.heap.size ≤ Vs.heap.size) := ⟨(S.mpLt HB5.out.wb.two.f).2, (S.mpLt HB5.out.wb.two.g).2, HB5.out.wb.two.chg.size⟩
              refine wpIn_wide.1 (wp_rangeU (gf := gf) (lb := lb) rfl HEG.out HIT3.out rfl
                Ns (fun Ns j U => Calm Ns W1.heap.size Vs U ∧ WS Fin Sq foot w0 γ2 δ a b d p p (.func (.func gf) #[] lb) sf Ns wa ms [(w0.heap.size, 3, .int .i64 stop), (w0.heap.size + 1, 4, .bool false), (b7, 23, .pointer (some ⟨a, 0, none⟩)), (B, 42, .func (.func gf) #[] lb), (B + 1, 32, .slice wa Lm wc), (B + 1 + 1, 3, .int .i64 (k : Int)), (B + 1 + 1 + 1, 3, .int .i64 (mi : Int)), (C, 3, .int .i64 (e : Int)), (C + 1, 3, .int .i64 (Lm : Int)), (C2, 3, .int .i64 0)] (U)) (fun _ _ _ _ _ => False)
                (fun Ns j U U' h hc => ⟨h.1.turn hc (Nat.le_refl _), h.2.turn S hc HM7.out.2.2 HM7.out.1 HM7.out.2.1⟩)
                (fun _ _ _ _ _ h _ => h)
                (fun Ns Ns' X Y h hc g1 g2 g3 => ⟨(h.1.more h.1.size g2).trans (Calm.new hc), h.2.more S hc g2 g3⟩)
                (fun z f => (HB5.out.off z (.inr (.inl f))).1)
                (fun Ns U h => ⟨h.2.wb.two.f, h.2.sq⟩)
                (fun Ns j U h => ⟨γ2, p, S.refl γ2, h.2.wb.two.f, h.2.sq⟩)
                ⟨Calm.new (Chg.refl _ _), HB5.out⟩ (fun Ns l j hj => absurd hj (by simp)) (fun Ns l j hj => absurd hj (by simp)) ?_)
              rintro Ns D3 Vu _ hD3 ⟨hcu, hU⟩ hdef3
              have HU : Hid (WS Fin Sq foot w0 γ2 δ a b d p p (.func (.func gf) #[] lb) sf Ns wa ms [(w0.heap.size, 3, .int .i64 stop), (w0.heap.size + 1, 4, .bool false), (b7, 23, .pointer (some ⟨a, 0, none⟩)), (B, 42, .func (.func gf) #[] lb), (B + 1, 32, .slice wa Lm wc), (B + 1 + 1, 3, .int .i64 (k : Int)), (B + 1 + 1 + 1, 3, .int .i64 (mi : Int)), (C, 3, .int .i64 (e : Int)), (C + 1, 3, .int .i64 (Lm : Int)), (C2, 3, .int .i64 0)] (Vu)) := hU
              have HD3 : Hid (Vu.heap[D3]? = some (.deferred (some []))) := hdef3
              have HD2u : Hid (Vu.heap[D2]? = some (.deferred (some []))) := Calm.keep hcu (by have := HSW.out; omega) HD2.out rfl
              have HD1u : Hid (Vu.heap[D1]? = some (.deferred (some []))) := Calm.keep hcu hD1 HD1v.out rfl
              have HNE : Hid (D1 < D2 ∧ D2 < D3) := ⟨by have := lt_of_blk HDS.out; omega, by have := lt_of_blk HD2.out; omega⟩
              clear hU hdef3 hcu HD2 HD1v HB5
              go_wp2_with fail
              refine wp_region_phaseQ (mk := fun u => #[_, _, _, _, _, _, _, _, _, _, _, _, _, _, _, _, _, _, _, _, _, _, _, _, _, _, _, _, _, _, _, _, _, _, _, _, _, _, _, _, _, _, _, _, _, _, _, _, _, _, _, _, _, _, _, _, _, _, _, _, _, _, _, _, _, _, _, _, _, _, _, _, _, _, _, _, _, _, _, _, _, _, _, _, _, _, _, _, _, _, _, _, _, _, _, _, _, _, _, _, _, _, _, _, _, _, _, _, _, _, _, _, _, _, _, _, _, _, _, _, _, _, _, _, _, _, _, _, _, _, _, _, _, _, _, _, _, _, _, _, _, _, _, _, _, _, _, _, _, _, _, _, _, _, _, _, _, _, _, _, _, _, _, _, _, _, _, _, _, _, _, _, _, _, _, _, _, _, _, _, _, _, _, _, _, _, _, _, _, _, _, _, _, _, _, u 195, u 196, u 197, u 198, u 199, u 200, u 201, u 202, u 203, u 204, u 205, u 206, u 207, u 208, u 209, u 210, u 211, u 212, u 213]) (G := lookG [(195, .pointer (some ⟨a, 0, none⟩)), (196, .int .i64 (p : Int)), (197, .int .i64 (p : Int)), (198, .bool true), (199, .bool true), (200, .int .i64 0), (201, .bool true), (202, .bool true), (203, undef), (204, undef), (205, undef), (206, .bool true), (207, .bool true), (208, .bool true), (209, .pointer (some ⟨b, 0, none⟩)), (211, .slice wa Lm wc), (212, .bool true), (213, .bool true)]) (J := fun n u ww => WyJ Vu ms Lm n (u 210) ww) [1, 3, 4, 12, 13, 15, 17] (fun i =>  7) ([{ target := .collected D3, args := #[] }, { target := .collected D2, args := #[] }, { target := .collected D1, args := #[] }]) (fun _ => undef) rfl (by kernel_rfl) 19 _ rfl rfl (by kernel_rfl) (by kernel_rfl) (by kernel_rfl) (by decide) ?_ ?_ ?_ (by kernel_rfl) ?_ ?_
              · repeat (refine ⟨fun _ _ => rfl, ?_⟩)
                exact trivial
              · intro q u u2 ww h hj
                have e210 : u 210 = u2 210 := h 15 (by decide)
                show WyJ Vu ms Lm q (u2 210) ww
                rw [← e210]
                exact hj
              · exact (Chg.refl (fun _ => False) Vu).drew
              · refine ⟨?_, ?_, ?_, ?_, ?_, ?_, ?_, ?_, ?_, ?_, ?_, ?_, ?_, ?_, ?_, ?_, ?_, ?_, ?_, trivial⟩
                · show StepRQ _ _ _ _ _ _ _ _ _ -- 195
                  unfold StepRQ
                  intro q hq u w_ hj hd K hK
                  clear hd
                  obtain ⟨kc, _⟩ := (HU.out.new S (wyj_chg hj)).get 2 rfl
                  go_simp
                  exact hK.out _ rfl
                · show StepWQ _ _ _ _ _ _ _ _ _ -- 196
                  unfold StepWQ
                  intro u w_ hj hd K hK
                  have h195 : u 195 = .pointer (some ⟨a, 0, none⟩) := hd.get 0 (by kernel_rfl)
                  clear hd
                  simp only [h195] at hK
                  have hj : Chg (fun _ => False) Vu w_ := hj
                  go_simp
                  go_at_call 16
                  refine (S.pos γ2 w0.heap.size a d 4096 p w_ (S.new HU.out.wb.two.f hj)).mono ?_
                  rintro z w2 ⟨rfl, c2⟩
                  exact hK.out _ w2 (chg_then hj c2) rfl
                · show StepRQ _ _ _ _ _ _ _ _ _ -- 197
                  unfold StepRQ
                  intro q hq u w_ hj hd K hK
                  clear hd
                  go_simp
                  exact hK.out (.int .i64 (p : Int)) rfl
                · show StepWQ _ _ _ _ _ _ _ _ _ -- 198
                  unfold StepWQ
                  intro u w_ hj hd K hK
                  have h196 : u 196 = .int .i64 (p : Int) := hd.get 1 (by kernel_rfl)
                  have h197 : u 197 = .int .i64 (p : Int) := hd.get 2 (by kernel_rfl)
                  clear hd
                  simp only [h196, h197] at hK
                  go_simp
                  exact hK.out _ _ hj rfl
                · show StepWQ _ _ _ _ _ _ _ _ _ -- 199
                  unfold StepWQ
                  intro u w_ hj hd K hK
                  have h198 : u 198 = .bool true := hd.get 3 (by kernel_rfl)
                  clear hd
                  simp only [h198] at hK
                  go_simp
                  exact hK.out _ _ hj rfl
                · show StepRQ _ _ _ _ _ _ _ _ _ -- 200
                  unfold StepRQ
                  intro q hq u w_ hj hd K hK
                  have h199 : u 199 = .bool true := hd.get 4 (by kernel_rfl)
                  clear hd
                  simp only [h199] at hK
                  obtain ⟨kc, _⟩ := (HU.out.new S (wyj_chg hj)).get 9 rfl
                  go_simp
                  exact hK.out _ rfl
                · show StepRQ _ _ _ _ _ _ _ _ _ -- 201
                  unfold StepRQ
                  intro q hq u w_ hj hd K hK
                  have h200 : u 200 = .int .i64 0 := hd.get 5 (by kernel_rfl)
                  have h199 : u 199 = .bool true := hd.get 4 (by kernel_rfl)
                  clear hd
                  simp only [h200, h199] at hK
                  go_simp
                  exact hK.out (.bool true) rfl
                · show StepRQ _ _ _ _ _ _ _ _ _ -- 202
                  unfold StepRQ
                  intro q hq u w_ hj hd K hK
                  have h201 : u 201 = .bool true := hd.get 6 (by kernel_rfl)
                  have h199 : u 199 = .bool true := hd.get 4 (by kernel_rfl)
                  clear hd
                  simp only [h201, h199] at hK
                  go_simp
                  exact hK.out (.bool true) rfl
                · show StepRQ _ _ _ _ _ _ _ _ _ -- 203
                  unfold StepRQ
                  intro q hq u w_ hj hd K hK
                  have h202 : u 202 = .bool true := hd.get 7 (by kernel_rfl)
                  clear hd
                  simp only [h202] at hK
                  go_simp
                  exact hK.out (undef) rfl
                · show StepRQ _ _ _ _ _ _ _ _ _ -- 204
                  unfold StepRQ
                  intro q hq u w_ hj hd K hK
                  have h203 : u 203 = undef := hd.get 8 (by kernel_rfl)
                  have h202 : u 202 = .bool true := hd.get 7 (by kernel_rfl)
                  clear hd
                  simp only [h203, h202] at hK
                  go_simp
                  exact hK.out (undef) rfl
                · show StepRQ _ _ _ _ _ _ _ _ _ -- 205
                  unfold StepRQ
                  intro q hq u w_ hj hd K hK
                  have h204 : u 204 = undef := hd.get 9 (by kernel_rfl)
                  have h202 : u 202 = .bool true := hd.get 7 (by kernel_rfl)
                  clear hd
                  simp only [h204, h202] at hK
                  go_simp
                  exact hK.out (undef) rfl
                · show StepRQ _ _ _ _ _ _ _ _ _ -- 206
                  unfold StepRQ
                  intro q hq u w_ hj hd K hK
                  have h202 : u 202 = .bool true := hd.get 7 (by kernel_rfl)
                  have h205 : u 205 = undef := hd.get 10 (by kernel_rfl)
                  have h199 : u 199 = .bool true := hd.get 4 (by kernel_rfl)
                  clear hd
                  simp only [h202, h205, h199] at hK
                  go_simp
                  exact hK.out (.bool true) rfl
                · show StepWQ _ _ _ _ _ _ _ _ _ -- 207
                  unfold StepWQ
                  intro u w_ hj hd K hK
                  have h199 : u 199 = .bool true := hd.get 4 (by kernel_rfl)
                  have h206 : u 206 = .bool true := hd.get 11 (by kernel_rfl)
                  clear hd
                  simp only [h199, h206] at hK
                  go_simp
                  exact hK.out _ _ hj rfl
                · show StepWQ _ _ _ _ _ _ _ _ _ -- 208
                  unfold StepWQ
                  intro u w_ hj hd K hK
                  have h207 : u 207 = .bool true := hd.get 12 (by kernel_rfl)
                  clear hd
                  simp only [h207] at hK
                  go_simp
                  exact hK.out _ _ hj rfl
                · show StepRQ _ _ _ _ _ _ _ _ _ -- 209
                  unfold StepRQ
                  intro q hq u w_ hj hd K hK
                  have h208 : u 208 = .bool true := hd.get 13 (by kernel_rfl)
                  clear hd
                  simp only [h208] at hK
                  go_simp
                  exact hK.out (.pointer (some ⟨b, 0, none⟩)) rfl
                · show StepWQ _ _ _ _ _ _ _ _ _ -- 210
                  unfold StepWQ
                  intro u w_ hj hd K hK
                  have h209 : u 209 = .pointer (some ⟨b, 0, none⟩) := hd.get 14 (by kernel_rfl)
                  have h208 : u 208 = .bool true := hd.get 13 (by kernel_rfl)
                  clear hd
                  simp only [h209, h208] at hK
                  have hj : Chg (fun _ => False) Vu w_ := hj
                  go_simp
                  go_at_call 12
                  refine (HAL.out w_ (S.new HU.out.wb.two.g hj)).mono ?_
                  rintro z w2 ⟨v2, rfl, ho, c2⟩
                  obtain ⟨a2, d2, hv2⟩ := formN ho
                  exact hK.out v2 w2 ⟨chg_then hj c2, a2, d2, hv2, by rw [hv2] at ho; exact mrow_own ho⟩ trivial
                · show StepRQ _ _ _ _ _ _ _ _ _ -- 211
                  unfold StepRQ
                  intro q hq u w_ hj hd K hK
                  have h208 : u 208 = .bool true := hd.get 13 (by kernel_rfl)
                  clear hd
                  simp only [h208] at hK
                  obtain ⟨kc, _⟩ := (HU.out.new S (wyj_chg hj)).get 4 rfl
                  go_simp
                  exact hK.out _ rfl
                · show StepWQ _ _ _ _ _ _ _ _ _ -- 212
                  unfold StepWQ
                  intro u w_ hj hd K hK
                  have h211 : u 211 = .slice wa Lm wc := hd.get 16 (by kernel_rfl)
                  have h208 : u 208 = .bool true := hd.get 13 (by kernel_rfl)
                  clear hd
                  obtain ⟨hc, a1, d1, e210, hm1⟩ := hj
                  simp only [e210, h211, h208] at hK
                  go_simp
                  go_at_call 15
                  refine (same_q a1 wa d1 wc Lm ms w_ hm1 (HU.out.row.new hc) HLM.out (by omega)).mono ?_
                  rintro z w2 ⟨rfl, kk, rfl⟩
                  exact hK.out _ _ (chg_then hc (chg_drewN _ _)) rfl
                · show StepRQ _ _ _ _ _ _ _ _ _ -- 213
                  unfold StepRQ
                  intro q hq u w_ hj hd K hK
                  have h208 : u 208 = .bool true := hd.get 13 (by kernel_rfl)
                  have h212 : u 212 = .bool true := hd.get 17 (by kernel_rfl)
                  clear hd
                  simp only [h208, h212] at hK
                  go_simp
                  exact hK.out (.bool true) rfl
              · intro u w8 hj hA K hK
                have hj : Chg (fun _ => False) Vu w8 := hj
                have e213 : u 213 = .bool true := hA.at 213 (by kernel_rfl)
                have HU8 : Hid (WS Fin Sq foot w0 γ2 δ a b d p p (.func (.func gf) #[] lb) sf Ns wa ms [(w0.heap.size, 3, .int .i64 stop), (w0.heap.size + 1, 4, .bool false), (b7, 23, .pointer (some ⟨a, 0, none⟩)), (B, 42, .func (.func gf) #[] lb), (B + 1, 32, .slice wa Lm wc), (B + 1 + 1, 3, .int .i64 (k : Int)), (B + 1 + 1 + 1, 3, .int .i64 (mi : Int)), (C, 3, .int .i64 (e : Int)), (C + 1, 3, .int .i64 (Lm : Int)), (C2, 3, .int .i64 0)] (w8)) := HU.out.new S hj
                have HE3 : Hid (w8.heap[D3]? = some (.deferred (some []))) := blk_keep HD3.out hj (fun f => f)
                have HE2 : Hid (w8.heap[D2]? = some (.deferred (some []))) := blk_keep HD2u.out hj (fun f => f)
                have HE1 : Hid (w8.heap[D1]? = some (.deferred (some []))) := blk_keep HD1u.out hj (fun f => f)
                obtain ⟨kc6, kf6⟩ := HU8.out.get 1 rfl
                clear hA hj HU HD3 HD2u HD1u
                go_simp
                refine hK.out _ _ ?_
                clear hK e213 K
                have hb6 := HU8.out.wb.bxs.2 1 _ rfl
                have cS := chg_cell w8 (w0.heap.size + 1) (.bool true)
                have ne : ∀ {D : Nat}, w8.heap[D]? = some (.deferred (some [])) → ¬ D = w0.heap.size + 1 := fun h e => by
                  rw [e] at h
                  rw [show w8.heap[w0.heap.size + 1]? = _ from hb6] at h
                  cases h
                have n3 := ne HE3.out
                have n2 := ne HE2.out
                have n1 := ne HE1.out
                obtain ⟨n12, n23⟩ := HNE.out
                have k3 : (w8.setCell ⟨w0.heap.size + 1, 0, none⟩ (.bool true)).heap[D3]? = some (.deferred (some [])) := blk_keep HE3.out cS n3
                have k2 : ((w8.setCell ⟨w0.heap.size + 1, 0, none⟩ (.bool true)).putObj D3 (.deferred none)).heap[D2]? = some (.deferred (some [])) := (World.putObj_heap_other (by omega)).trans (blk_keep HE2.out cS n2)
                have k1 : (((w8.setCell ⟨w0.heap.size + 1, 0, none⟩ (.bool true)).putObj D3 (.deferred none)).putObj D2 (.deferred none)).heap[D1]? = some (.deferred (some [])) := (World.putObj_heap_other (by omega)).trans ((World.putObj_heap_other (by omega)).trans (blk_keep HE1.out cS n1))
                have hres0 : ((((w8.setCell ⟨w0.heap.size + 1, 0, none⟩ (.bool true)).putObj D3 (.deferred none)).putObj D2 (.deferred none)).putObj D1 (.deferred none)).heap[w0.heap.size + 1]? = some (.cells #[.bool true] 4 (0, 0)) := (World.putObj_heap_other (by omega)).trans ((World.putObj_heap_other (by omega)).trans ((World.putObj_heap_other (by omega)).trans (blk_set10 hb6)))
                have HRES : Hid (((((w8.setCell ⟨w0.heap.size + 1, 0, none⟩ (.bool true)).putObj D3 (.deferred none)).putObj D2 (.deferred none)).putObj D1 (.deferred none)).cell? ⟨w0.heap.size + 1, 0, none⟩ = some (.bool true)) := (cells1 hres0).1
                have HCE : Hid (Chg (fun _ => False) w0 ((((w8.setCell ⟨w0.heap.size + 1, 0, none⟩ (.bool true)).putObj D3 (.deferred none)).putObj D2 (.deferred none)).putObj D1 (.deferred none))) := by
                  have z0 := HU8.out.wb.two.chg
                  have z1 : Chg (fun _ => False) w0 (w8.setCell ⟨w0.heap.size + 1, 0, none⟩ (.bool true)) := z0.trans cS (fun z e => .inr (by omega))
                  have hw := HM8.out.2.2
                  have z2 : Chg (fun _ => False) w0 ((w8.setCell ⟨w0.heap.size + 1, 0, none⟩ (.bool true)).putObj D3 (.deferred none)) := z1.trans (chg_put _ D3 _) (fun z e => .inr (by omega))
                  have z3 : Chg (fun _ => False) w0 (((w8.setCell ⟨w0.heap.size + 1, 0, none⟩ (.bool true)).putObj D3 (.deferred none)).putObj D2 (.deferred none)) := z2.trans (chg_put _ D2 _) (fun z e => .inr (by omega))
                  exact z3.trans (chg_put _ D1 _) (fun z e => .inr (by omega))
                clear hb6 cS ne hres0
                go_wp2
                refine ⟨by simp, .inl ⟨_, _, rfl, run_takeDeferred k3, ?_⟩⟩
                refine ⟨by simp, .inl ⟨_, _, rfl, run_takeDeferred k2, ?_⟩⟩
                refine ⟨by simp, .inl ⟨_, _, rfl, run_takeDeferred k1, ?_⟩⟩
                have hres := HRES.out
                exact ⟨.bool true, by simp [results, Try.results5, go_sem, hres], rfl, HCE.out⟩
            · have hg0 : decide ((0 : Int) < (Lm : Int)) = true := by simp; omega
              have hg0' : decide (0 < Lm) = true := by simp; omega
              have hq : L = q := (hq1 (by omega)).symm
              subst hq
              have HMN : Hid (mat d 4096 L 273 = []) := by show _ = _; rw [← HDL.out]; exact mat_end d 4096 273
              clear hq0 hq1 hl0
              go_wp2_with fail
              clear kc21 kc15 kd14
              have HNIL : Hid (mat d 4096 L 273 = []) := HMN.out
              have HIT3 : Hid _ := HIT.out γ2 L
              rw [HNIL.out, List.map_nil] at HIT3
              generalize V.alloc (.cells #[.int .i64 0] 3) = Vs at *
              generalize V.heap.size = C2 at *
              have HM7 : Hid (mp γ2 < Vs.heap.size ∧ mp δ < Vs.heap.size ∧ w0.heap.size ≤ Vs.heap.size) := ⟨(S.mpLt HB5.out.wb.two.f).2, (S.mpLt HB5.out.wb.two.g).2, HB5.out.wb.two.chg.size⟩
              refine wpIn_wide.1 (wp_rangeU (gf := gf) (lb := lb) rfl HEG.out HIT3.out rfl
                Ns (fun Ns j U => Calm Ns W1.heap.size Vs U ∧ WS Fin Sq foot w0 γ2 δ a b d L p (.func (.func gf) #[] lb) sf Ns wa ms [(w0.heap.size, 3, .int .i64 stop), (w0.heap.size + 1, 4, .bool false), (b7, 23, .pointer (some ⟨a, 0, none⟩)), (B, 42, .func (.func gf) #[] lb), (B + 1, 32, .slice wa Lm wc), (B + 1 + 1, 3, .int .i64 (k : Int)), (B + 1 + 1 + 1, 3, .int .i64 (mi : Int)), (C, 3, .int .i64 (e : Int)), (C + 1, 3, .int .i64 (Lm : Int)), (C2, 3, .int .i64 0)] (U)) (fun _ _ _ _ _ => False)
                (fun Ns j U U' h hc => ⟨h.1.turn hc (Nat.le_refl _), h.2.turn S hc HM7.out.2.2 HM7.out.1 HM7.out.2.1⟩)
                (fun _ _ _ _ _ h _ => h)
                (fun Ns Ns' X Y h hc g1 g2 g3 => ⟨(h.1.more h.1.size g2).trans (Calm.new hc), h.2.more S hc g2 g3⟩)
                (fun z f => (HB5.out.off z (.inr (.inl f))).1)
                (fun Ns U h => ⟨h.2.wb.two.f, h.2.sq⟩)
                (fun Ns j U h => ⟨γ2, L, S.refl γ2, h.2.wb.two.f, h.2.sq⟩)
                ⟨Calm.new (Chg.refl _ _), HB5.out⟩ (fun Ns l j hj => absurd hj (by simp)) (fun Ns l j hj => absurd hj (by simp)) ?_)
              rintro Ns D3 Vu _ hD3 ⟨hcu, hU⟩ hdef3
              have HU : Hid (WS Fin Sq foot w0 γ2 δ a b d L p (.func (.func gf) #[] lb) sf Ns wa ms [(w0.heap.size, 3, .int .i64 stop), (w0.heap.size + 1, 4, .bool false), (b7, 23, .pointer (some ⟨a, 0, none⟩)), (B, 42, .func (.func gf) #[] lb), (B + 1, 32, .slice wa Lm wc), (B + 1 + 1, 3, .int .i64 (k : Int)), (B + 1 + 1 + 1, 3, .int .i64 (mi : Int)), (C, 3, .int .i64 (e : Int)), (C + 1, 3, .int .i64 (Lm : Int)), (C2, 3, .int .i64 0)] (Vu)) := hU
              have HD3 : Hid (Vu.heap[D3]? = some (.deferred (some []))) := hdef3
              have HD2u : Hid (Vu.heap[D2]? = some (.deferred (some []))) := Calm.keep hcu (by have := HSW.out; omega) HD2.out rfl
              have HD1u : Hid (Vu.heap[D1]? = some (.deferred (some []))) := Calm.keep hcu hD1 HD1v.out rfl
              have HNE : Hid (D1 < D2 ∧ D2 < D3) := ⟨by have := lt_of_blk HDS.out; omega, by have := lt_of_blk HD2.out; omega⟩
              clear hU hdef3 hcu HD2 HD1v HB5
              go_wp2_with fail
              refine wp_region_phaseQ (mk := fun u => #[_, _, _, _, _, _, _, _, _, _, _, _, _, _, _, _, _, _, _, _, _, _, _, _, _, _, _, _, _, _, _, _, _, _, _, _, _, _, _, _, _, _, _, _, _, _, _, _, _, _, _, _, _, _, _, _, _, _, _, _, _, _, _, _, _, _, _, _, _, _, _, _, _, _, _, _, _, _, _, _, _, _, _, _, _, _, _, _, _, _, _, _, _, _, _, _, _, _, _, _, _, _, _, _, _, _, _, _, _, _, _, _, _, _, _, _, _, _, _, _, _, _, _, _, _, _, _, _, _, _, _, _, _, _, _, _, _, _, _, _, _, _, _, _, _, _, _, _, _, _, _, _, _, _, _, _, _, _, _, _, _, _, _, _, _, _, _, _, _, _, _, _, _, _, _, _, _, _, _, _, _, _, _, _, _, _, _, _, _, _, _, _, _, _, _, u 195, u 196, u 197, u 198, u 199, u 200, u 201, u 202, u 203, u 204, u 205, u 206, u 207, u 208, u 209, u 210, u 211, u 212, u 213]) (G := lookG [(195, .pointer (some ⟨a, 0, none⟩)), (196, .int .i64 (L : Int)), (197, .int .i64 (L : Int)), (198, .bool true), (199, .bool true), (200, .int .i64 0), (201, .bool true), (202, .bool true), (203, undef), (204, undef), (205, undef), (206, .bool true), (207, .bool true), (208, .bool true), (209, .pointer (some ⟨b, 0, none⟩)), (211, .slice wa Lm wc), (212, .bool true), (213, .bool true)]) (J := fun n u ww => WyJ Vu ms Lm n (u 210) ww) [1, 3, 4, 12, 13, 15, 17] (fun i =>  7) ([{ target := .collected D3, args := #[] }, { target := .collected D2, args := #[] }, { target := .collected D1, args := #[] }]) (fun _ => undef) rfl (by kernel_rfl) 19 _ rfl rfl (by kernel_rfl) (by kernel_rfl) (by kernel_rfl) (by decide) ?_ ?_ ?_ (by kernel_rfl) ?_ ?_
              · repeat (refine ⟨fun _ _ => rfl, ?_⟩)
                exact trivial
              · intro q u u2 ww h hj
                have e210 : u 210 = u2 210 := h 15 (by decide)
                show WyJ Vu ms Lm q (u2 210) ww
                rw [← e210]
                exact hj
              · exact (Chg.refl (fun _ => False) Vu).drew
              · refine ⟨?_, ?_, ?_, ?_, ?_, ?_, ?_, ?_, ?_, ?_, ?_, ?_, ?_, ?_, ?_, ?_, ?_, ?_, ?_, trivial⟩
                · show StepRQ _ _ _ _ _ _ _ _ _ -- 195
                  unfold StepRQ
                  intro q hq u w_ hj hd K hK
                  clear hd
                  obtain ⟨kc, _⟩ := (HU.out.new S (wyj_chg hj)).get 2 rfl
                  go_simp
                  exact hK.out _ rfl
                · show StepWQ _ _ _ _ _ _ _ _ _ -- 196
                  unfold StepWQ
                  intro u w_ hj hd K hK
                  have h195 : u 195 = .pointer (some ⟨a, 0, none⟩) := hd.get 0 (by kernel_rfl)
                  clear hd
                  simp only [h195] at hK
                  have hj : Chg (fun _ => False) Vu w_ := hj
                  go_simp
                  go_at_call 16
                  refine (S.pos γ2 w0.heap.size a d 4096 L w_ (S.new HU.out.wb.two.f hj)).mono ?_
                  rintro z w2 ⟨rfl, c2⟩
                  exact hK.out _ w2 (chg_then hj c2) rfl
                · show StepRQ _ _ _ _ _ _ _ _ _ -- 197
                  unfold StepRQ
                  intro q hq u w_ hj hd K hK
                  clear hd
                  go_simp
                  exact hK.out (.int .i64 (L : Int)) rfl
                · show StepWQ _ _ _ _ _ _ _ _ _ -- 198
                  unfold StepWQ
                  intro u w_ hj hd K hK
                  have h196 : u 196 = .int .i64 (L : Int) := hd.get 1 (by kernel_rfl)
                  have h197 : u 197 = .int .i64 (L : Int) := hd.get 2 (by kernel_rfl)
                  clear hd
                  simp only [h196, h197] at hK
                  go_simp
                  exact hK.out _ _ hj rfl
                · show StepWQ _ _ _ _ _ _ _ _ _ -- 199
                  unfold StepWQ
                  intro u w_ hj hd K hK
                  have h198 : u 198 = .bool true := hd.get 3 (by kernel_rfl)
                  clear hd
                  simp only [h198] at hK
                  go_simp
                  exact hK.out _ _ hj rfl
                · show StepRQ _ _ _ _ _ _ _ _ _ -- 200
                  unfold StepRQ
                  intro q hq u w_ hj hd K hK
                  have h199 : u 199 = .bool true := hd.get 4 (by kernel_rfl)
                  clear hd
                  simp only [h199] at hK
                  obtain ⟨kc, _⟩ := (HU.out.new S (wyj_chg hj)).get 9 rfl
                  go_simp
                  exact hK.out _ rfl
                · show StepRQ _ _ _ _ _ _ _ _ _ -- 201
                  unfold StepRQ
                  intro q hq u w_ hj hd K hK
                  have h200 : u 200 = .int .i64 0 := hd.get 5 (by kernel_rfl)
                  have h199 : u 199 = .bool true := hd.get 4 (by kernel_rfl)
                  clear hd
                  simp only [h200, h199] at hK
                  go_simp
                  exact hK.out (.bool true) rfl
                · show StepRQ _ _ _ _ _ _ _ _ _ -- 202
                  unfold StepRQ
                  intro q hq u w_ hj hd K hK
                  have h201 : u 201 = .bool true := hd.get 6 (by kernel_rfl)
                  have h199 : u 199 = .bool true := hd.get 4 (by kernel_rfl)
                  clear hd
                  simp only [h201, h199] at hK
                  go_simp
                  exact hK.out (.bool true) rfl
                · show StepRQ _ _ _ _ _ _ _ _ _ -- 203
                  unfold StepRQ
                  intro q hq u w_ hj hd K hK
                  have h202 : u 202 = .bool true := hd.get 7 (by kernel_rfl)
                  clear hd
                  simp only [h202] at hK
                  go_simp
                  exact hK.out (undef) rfl
                · show StepRQ _ _ _ _ _ _ _ _ _ -- 204
                  unfold StepRQ
                  intro q hq u w_ hj hd K hK
                  have h203 : u 203 = undef := hd.get 8 (by kernel_rfl)
                  have h202 : u 202 = .bool true := hd.get 7 (by kernel_rfl)
                  clear hd
                  simp only [h203, h202] at hK
                  go_simp
                  exact hK.out (undef) rfl
                · show StepRQ _ _ _ _ _ _ _ _ _ -- 205
                  unfold StepRQ
                  intro q hq u w_ hj hd K hK
                  have h204 : u 204 = undef := hd.get 9 (by kernel_rfl)
                  have h202 : u 202 = .bool true := hd.get 7 (by kernel_rfl)
                  clear hd
                  simp only [h204, h202] at hK
                  go_simp
                  exact hK.out (undef) rfl
                · show StepRQ _ _ _ _ _ _ _ _ _ -- 206
                  unfold StepRQ
                  intro q hq u w_ hj hd K hK
                  have h202 : u 202 = .bool true := hd.get 7 (by kernel_rfl)
                  have h205 : u 205 = undef := hd.get 10 (by kernel_rfl)
                  have h199 : u 199 = .bool true := hd.get 4 (by kernel_rfl)
                  clear hd
                  simp only [h202, h205, h199] at hK
                  go_simp
                  exact hK.out (.bool true) rfl
                · show StepWQ _ _ _ _ _ _ _ _ _ -- 207
                  unfold StepWQ
                  intro u w_ hj hd K hK
                  have h199 : u 199 = .bool true := hd.get 4 (by kernel_rfl)
                  have h206 : u 206 = .bool true := hd.get 11 (by kernel_rfl)
                  clear hd
                  simp only [h199, h206] at hK
                  go_simp
                  exact hK.out _ _ hj rfl
                · show StepWQ _ _ _ _ _ _ _ _ _ -- 208
                  unfold StepWQ
                  intro u w_ hj hd K hK
                  have h207 : u 207 = .bool true := hd.get 12 (by kernel_rfl)
                  clear hd
                  simp only [h207] at hK
                  go_simp
                  exact hK.out _ _ hj rfl
                · show StepRQ _ _ _ _ _ _ _ _ _ -- 209
                  unfold StepRQ
                  intro q hq u w_ hj hd K hK
                  have h208 : u 208 = .bool true := hd.get 13 (by kernel_rfl)
                  clear hd
                  simp only [h208] at hK
                  go_simp
                  exact hK.out (.pointer (some ⟨b, 0, none⟩)) rfl
                · show StepWQ _ _ _ _ _ _ _ _ _ -- 210
                  unfold StepWQ
                  intro u w_ hj hd K hK
                  have h209 : u 209 = .pointer (some ⟨b, 0, none⟩) := hd.get 14 (by kernel_rfl)
                  have h208 : u 208 = .bool true := hd.get 13 (by kernel_rfl)
                  clear hd
                  simp only [h209, h208] at hK
                  have hj : Chg (fun _ => False) Vu w_ := hj
                  go_simp
                  go_at_call 12
                  refine (HAL.out w_ (S.new HU.out.wb.two.g hj)).mono ?_
                  rintro z w2 ⟨v2, rfl, ho, c2⟩
                  obtain ⟨a2, d2, hv2⟩ := formN ho
                  exact hK.out v2 w2 ⟨chg_then hj c2, a2, d2, hv2, by rw [hv2] at ho; exact mrow_own ho⟩ trivial
                · show StepRQ _ _ _ _ _ _ _ _ _ -- 211
                  unfold StepRQ
                  intro q hq u w_ hj hd K hK
                  have h208 : u 208 = .bool true := hd.get 13 (by kernel_rfl)
                  clear hd
                  simp only [h208] at hK
                  obtain ⟨kc, _⟩ := (HU.out.new S (wyj_chg hj)).get 4 rfl
                  go_simp
                  exact hK.out _ rfl
                · show StepWQ _ _ _ _ _ _ _ _ _ -- 212
                  unfold StepWQ
                  intro u w_ hj hd K hK
                  have h211 : u 211 = .slice wa Lm wc := hd.get 16 (by kernel_rfl)
                  have h208 : u 208 = .bool true := hd.get 13 (by kernel_rfl)
                  clear hd
                  obtain ⟨hc, a1, d1, e210, hm1⟩ := hj
                  simp only [e210, h211, h208] at hK
                  go_simp
                  go_at_call 15
                  refine (same_q a1 wa d1 wc Lm ms w_ hm1 (HU.out.row.new hc) HLM.out (by omega)).mono ?_
                  rintro z w2 ⟨rfl, kk, rfl⟩
                  exact hK.out _ _ (chg_then hc (chg_drewN _ _)) rfl
                · show StepRQ _ _ _ _ _ _ _ _ _ -- 213
                  unfold StepRQ
                  intro q hq u w_ hj hd K hK
                  have h208 : u 208 = .bool true := hd.get 13 (by kernel_rfl)
                  have h212 : u 212 = .bool true := hd.get 17 (by kernel_rfl)
                  clear hd
                  simp only [h208, h212] at hK
                  go_simp
                  exact hK.out (.bool true) rfl
              · intro u w8 hj hA K hK
                have hj : Chg (fun _ => False) Vu w8 := hj
                have e213 : u 213 = .bool true := hA.at 213 (by kernel_rfl)
                have HU8 : Hid (WS Fin Sq foot w0 γ2 δ a b d L p (.func (.func gf) #[] lb) sf Ns wa ms [(w0.heap.size, 3, .int .i64 stop), (w0.heap.size + 1, 4, .bool false), (b7, 23, .pointer (some ⟨a, 0, none⟩)), (B, 42, .func (.func gf) #[] lb), (B + 1, 32, .slice wa Lm wc), (B + 1 + 1, 3, .int .i64 (k : Int)), (B + 1 + 1 + 1, 3, .int .i64 (mi : Int)), (C, 3, .int .i64 (e : Int)), (C + 1, 3, .int .i64 (Lm : Int)), (C2, 3, .int .i64 0)] (w8)) := HU.out.new S hj
                have HE3 : Hid (w8.heap[D3]? = some (.deferred (some []))) := blk_keep HD3.out hj (fun f => f)
                have HE2 : Hid (w8.heap[D2]? = some (.deferred (some []))) := blk_keep HD2u.out hj (fun f => f)
                have HE1 : Hid (w8.heap[D1]? = some (.deferred (some []))) := blk_keep HD1u.out hj (fun f => f)
                obtain ⟨kc6, kf6⟩ := HU8.out.get 1 rfl
                clear hA hj HU HD3 HD2u HD1u
                go_simp
                refine hK.out _ _ ?_
                clear hK e213 K
                have hb6 := HU8.out.wb.bxs.2 1 _ rfl
                have cS := chg_cell w8 (w0.heap.size + 1) (.bool true)
                have ne : ∀ {D : Nat}, w8.heap[D]? = some (.deferred (some [])) → ¬ D = w0.heap.size + 1 := fun h e => by
                  rw [e] at h
                  rw [show w8.heap[w0.heap.size + 1]? = _ from hb6] at h
                  cases h
                have n3 := ne HE3.out
                have n2 := ne HE2.out
                have n1 := ne HE1.out
                obtain ⟨n12, n23⟩ := HNE.out
                have k3 : (w8.setCell ⟨w0.heap.size + 1, 0, none⟩ (.bool true)).heap[D3]? = some (.deferred (some [])) := blk_keep HE3.out cS n3
                have k2 : ((w8.setCell ⟨w0.heap.size + 1, 0, none⟩ (.bool true)).putObj D3 (.deferred none)).heap[D2]? = some (.deferred (some [])) := (World.putObj_heap_other (by omega)).trans (blk_keep HE2.out cS n2)
                have k1 : (((w8.setCell ⟨w0.heap.size + 1, 0, none⟩ (.bool true)).putObj D3 (.deferred none)).putObj D2 (.deferred none)).heap[D1]? = some (.deferred (some [])) := (World.putObj_heap_other (by omega)).trans ((World.putObj_heap_other (by omega)).trans (blk_keep HE1.out cS n1))
                have hres0 : ((((w8.setCell ⟨w0.heap.size + 1, 0, none⟩ (.bool true)).putObj D3 (.deferred none)).putObj D2 (.deferred none)).putObj D1 (.deferred none)).heap[w0.heap.size + 1]? = some (.cells #[.bool true] 4 (0, 0)) := (World.putObj_heap_other (by omega)).trans ((World.putObj_heap_other (by omega)).trans ((World.putObj_heap_other (by omega)).trans (blk_set10 hb6)))
                have HRES : Hid (((((w8.setCell ⟨w0.heap.size + 1, 0, none⟩ (.bool true)).putObj D3 (.deferred none)).putObj D2 (.deferred none)).putObj D1 (.deferred none)).cell? ⟨w0.heap.size + 1, 0, none⟩ = some (.bool true)) := (cells1 hres0).1
                have HCE : Hid (Chg (fun _ => False) w0 ((((w8.setCell ⟨w0.heap.size + 1, 0, none⟩ (.bool true)).putObj D3 (.deferred none)).putObj D2 (.deferred none)).putObj D1 (.deferred none))) := by
                  have z0 := HU8.out.wb.two.chg
                  have z1 : Chg (fun _ => False) w0 (w8.setCell ⟨w0.heap.size + 1, 0, none⟩ (.bool true)) := z0.trans cS (fun z e => .inr (by omega))
                  have hw := HM8.out.2.2
                  have z2 : Chg (fun _ => False) w0 ((w8.setCell ⟨w0.heap.size + 1, 0, none⟩ (.bool true)).putObj D3 (.deferred none)) := z1.trans (chg_put _ D3 _) (fun z e => .inr (by omega))
                  have z3 : Chg (fun _ => False) w0 (((w8.setCell ⟨w0.heap.size + 1, 0, none⟩ (.bool true)).putObj D3 (.deferred none)).putObj D2 (.deferred none)) := z2.trans (chg_put _ D2 _) (fun z e => .inr (by omega))
                  exact z3.trans (chg_put _ D1 _) (fun z e => .inr (by omega))
                clear hb6 cS ne hres0
                go_wp2
                refine ⟨by simp, .inl ⟨_, _, rfl, run_takeDeferred k3, ?_⟩⟩
                refine ⟨by simp, .inl ⟨_, _, rfl, run_takeDeferred k2, ?_⟩⟩
                refine ⟨by simp, .inl ⟨_, _, rfl, run_takeDeferred k1, ?_⟩⟩
                have hres := HRES.out
                exact ⟨.bool true, by simp [results, Try.results5, go_sem, hres], rfl, HCE.out⟩

end Go.Proofs.Ytkdionoelbiidaa
