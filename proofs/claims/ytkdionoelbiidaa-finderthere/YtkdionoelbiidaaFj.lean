/- The law's begins; of no statement by itself. -/
import Derived.Test.YtkdionoelbiidaaFd
import Derived.Test.YtkdionoelbiidaaRq
namespace Go.Proofs.Ytkdionoelbiidaa
open Go.RowKit
set_option linter.unusedVariables false
attribute [local go_sem] Oper.semAt_some
variable {Γ : Type} {le : Γ → Γ → Prop} {foot : Γ → Nat → Prop} {mp : Γ → Nat} {Fin : Γ → World → Nat → Nat → List Nat → Nat → Nat → Prop} {Sq : World → Value → (Nat → Prop) → Nat → Int → Prop}

theorem cellsN3 {w : World} {a : Nat} {x y z : Value} {t : TypeId} (h : w.heap[a]? = some (.cells #[x, y, z] t (0, 0))) : w.cell? ⟨a, 0, none⟩ = some x ∧ w.cell? ⟨a, 1, none⟩ = some y ∧ w.cell? ⟨a, 2, none⟩ = some z :=
  ⟨by simp [World.cell?, h], by simp [World.cell?, h], by simp [World.cell?, h]⟩
theorem cells1 {w : World} {a : Nat} {x : Value} {t : TypeId} (h : w.heap[a]? = some (.cells #[x] t (0, 0))) : w.cell? ⟨a, 0, none⟩ = some x ∧ w.frozen? ⟨a, 0, none⟩ = false := ⟨by simp [World.cell?, h], by simp [World.frozen?, h]⟩
/-- The state of begins' loop. -/
structure BegI (Sq : World → Value → (Nat → Prop) → Nat → Int → Prop) (w : World) (sv : Value) (sf : Nat → Prop) (a : Nat) (kd N Sp : Int) (wa : Option Addr) (Lm wc : Nat) (ms : List (Nat × Nat)) (k : Nat) (W : World) : Prop where
  sb : W.heap[w.heap.size]? = some (.cells #[.int .i64 kd, .int .i64 N, .int .i64 Sp] 50 (0, 0))
  wb : W.heap[w.heap.size + 1]? = some (.cells #[.slice wa Lm wc] 32 (0, 0))
  rb : W.heap[w.heap.size + 1 + 1]? = some (.cells #[.bool false] 4 (0, 0))
  nb : W.heap[w.heap.size + 1 + 1 + 1]? = some (.cells #[.int .i64 (k : Int)] 3 (0, 0))
  row : MRow W wa ms
  chg : Chg (fun _ => False) w W
  sq : Sq W sv sf a N
theorem mrow_turn {w w' : World} {ad : Option Addr} {ms : List (Nat × Nat)} {B0 : Nat} (h : MRow w ad ms) (hc : Turn B0 w w') : MRow w' ad ms := fun k m hk => by
  obtain ⟨g, e, h1, h2⟩ := h k m hk
  refine ⟨g, e, ?_, ?_⟩
  · unfold World.cell? at h1 ⊢
    cases ho : w.heap[g]? with
    | none => simp [ho] at h1
    | some o =>
      cases o with
      | cells cs t fz => rw [show w'.heap[(⟨g, k * 2, none⟩ : Addr).block]? = _ from hc.cells ho]; simpa [ho] using h1
      | _ => simp [ho] at h1
  · unfold World.cell? at h2 ⊢
    cases ho : w.heap[g]? with
    | none => simp [ho] at h2
    | some o =>
      cases o with
      | cells cs t fz => rw [show w'.heap[(⟨g, k * 2 + 1, none⟩ : Addr).block]? = _ from hc.cells ho]; simpa [ho] using h2
      | _ => simp [ho] at h2
theorem BegI.turn (S : FinSpec le foot mp Fin Sq) {w : World} {sv : Value} {sf : Nat → Prop} {a : Nat} {kd N Sp : Int} {wa : Option Addr} {Lm wc : Nat} {ms : List (Nat × Nat)} {k : Nat} {W W' : World} {B0 : Nat} (h : BegI Sq w sv sf a kd N Sp wa Lm wc ms k W) (hB : w.heap.size ≤ B0) (hc : Turn B0 W W') : BegI Sq w sv sf a kd N Sp wa Lm wc ms k W' :=
  ⟨hc.cells h.sb, hc.cells h.wb, hc.cells h.rb, hc.cells h.nb, mrow_turn h.row hc, h.chg.trans hc (fun z f => .inr (Nat.le_trans hB f.1)), S.sqTurn h.sq hc⟩
theorem BegI.new (S : FinSpec le foot mp Fin Sq) {w : World} {sv : Value} {sf : Nat → Prop} {a : Nat} {kd N Sp : Int} {wa : Option Addr} {Lm wc : Nat} {ms : List (Nat × Nat)} {k : Nat} {W W' : World} (h : BegI Sq w sv sf a kd N Sp wa Lm wc ms k W) (hc : Chg (fun _ => False) W W') : BegI Sq w sv sf a kd N Sp wa Lm wc ms k W' := h.turn S (Nat.le_refl _) (Turn.new hc)
set_option maxHeartbeats 4000000 in
set_option maxRecDepth 100000 in
theorem begins_any (S : FinSpec le foot mp Fin Sq) (γ : Γ) (B a : Nat) (d : List Nat) (n p : Nat) (kd N Sp : Int) (wa : Option Addr) (Lm wc : Nat) (w : World) (h : Fin γ w B a d n p) (hN : I64 N) (hrow : MRow w wa (mat d n p N)) (hwa : ∀ g, wa = some ⟨g, 0, none⟩ → g < w.heap.size) (hlm : (mat d n p N).length = Lm) : Calls Try.prog 22 #[.pointer (some ⟨a, 0, none⟩), .agg #[.int .i64 kd, .int .i64 N, .int .i64 Sp], .slice wa Lm wc] w fun e w' => e = .returned (.bool true) ∧ Chg (fun _ => False) w w' := by
  have HM : Hid (∀ w1, Chg (fun _ => False) w w1 → Calls Try.prog 17 #[.pointer (some ⟨a, 0, none⟩), .int .i64 N] w1 fun e w' => ∃ v sf, e = .returned v ∧ Sq w' v sf a N ∧ Chg (fun _ => False) w1 w' ∧ ∀ z, sf z → w1.heap.size ≤ z) := fun w1 c => S.mats γ B a d n p N w1 (S.new h c) hN
  have HF : Hid (Fin γ w B a d n p) := h
  have hml := mat_len d n p N
  obtain ⟨ms, hms⟩ : ∃ ms, mat d n p N = ms := ⟨_, rfl⟩
  have HMS : Hid (mat d n p N = ms) := hms
  rw [hms] at hrow hlm hml
  have HROW : Hid (MRow w wa ms) := hrow
  have HLM : Hid (ms.length = Lm) := hlm
  have hLmb : (Lm : Int) ≤ 32 := by omega
  clear h hms hrow
  refine callsIn_wide (n := 0).1 (callsIn_of_wp_marks Try.func22 rfl trivial (wpIn_wide.2 ?_))
  simp only [Try.ntmps22, List.size_toArray, List.length_cons, List.length_nil, Nat.reduceAdd, Nat.reduceSub, Array.replicate_succ, Array.replicate_zero, List.push_toArray, List.append_toArray, List.nil_append, List.cons_append]
  go_wp2_with fail
  refine (HM.out _ (((((Chg.refl _ w).alloc _).alloc _).alloc _).alloc _)).mono ?_
  rintro z w1 ⟨v, sf, rfl, hsq, c1, hsf⟩
  obtain ⟨gf, lb, hv, heg, hit⟩ := S.iter hsq
  subst hv
  have HIT : Hid _ := hit γ B d n p
  rw [HMS.out] at HIT
  have cW : Chg (fun _ => False) w w1 := (((((Chg.refl (fun _ => False) w).alloc _).alloc _).alloc _).alloc _).trans c1 (fun _ f => f.elim)
  have HB0 : Hid (BegI Sq w (.func (.func gf) #[] lb) sf a kd N Sp wa Lm wc ms 0 w1) := by
    have s1 : ∀ (x : World) (o o' : Obj), (((x.alloc o).alloc o').heap[x.heap.size]? = some o) := fun x o o' => (Below.heap_alloc _ _ _ (by simp)).trans (heap_alloc_last x _)
    refine ⟨blk_keep ?_ c1 (fun f => f), blk_keep ?_ c1 (fun f => f), blk_keep ?_ c1 (fun f => f), blk_keep ?_ c1 (fun f => f), HROW.out.new cW, cW, hsq⟩
    · exact (Below.heap_alloc _ _ _ (by simp <;> omega)).trans ((Below.heap_alloc _ _ _ (by simp <;> omega)).trans (s1 w _ _))
    · have := s1 (w.alloc (.cells #[.int .i64 kd, .int .i64 N, .int .i64 Sp] 50)) (.cells #[.slice wa Lm wc] 32) (.cells #[.bool false] 4)
      rw [World.size_alloc] at this
      exact (Below.heap_alloc _ _ _ (by simp <;> omega)).trans this
    · have := s1 ((w.alloc (.cells #[.int .i64 kd, .int .i64 N, .int .i64 Sp] 50)).alloc (.cells #[.slice wa Lm wc] 32)) (.cells #[.bool false] 4) (.cells #[.int .i64 0] 3)
      rw [World.size_alloc, World.size_alloc] at this
      exact this
    · have := heap_alloc_last (((w.alloc (.cells #[.int .i64 kd, .int .i64 N, .int .i64 Sp] 50)).alloc (.cells #[.slice wa Lm wc] 32)).alloc (.cells #[.bool false] 4)) (.cells #[.int .i64 0] 3)
      rw [World.size_alloc, World.size_alloc, World.size_alloc] at this
      exact this
  have hsz1 : w.heap.size + 4 ≤ w1.heap.size := by have := c1.size; simpa using this
  have HSF : Hid (∀ z, sf z → w.heap.size + 4 ≤ z) := fun z f => by have := hsf z f; simpa using this
  have HEG : Hid (∀ args w, (callFunc gf args).run Try.prog w = .ok (.enter gf args) w) := heg
  clear hit heg c1 hsf hsq
  go_wp2_with fail
  refine wpIn_wide.1 (wp_range (gf := gf) (lb := lb) rfl HEG.out HIT.out rfl
    (fun _ => False) (fun Ns k W => (∀ z, Ns z → w.heap.size + 4 ≤ z) ∧ BegI Sq w (.func (.func gf) #[] lb) sf a kd N Sp wa Lm wc ms k W)
    (fun c Ns k W => c = .exit 0 ∧ (k : Int) = Sp ∧ BegI Sq w (.func (.func gf) #[] lb) sf a kd N Sp wa Lm wc ms k W)
    (fun Ns k a₁ W => ∃ b m, (∀ z, Ns z → w.heap.size + 4 ≤ z) ∧ ms[k]? = some m ∧ BegI Sq w (.func (.func gf) #[] lb) sf a kd N Sp wa Lm wc ms k W ∧ W.heap[b]? = some (.cells #[.int .i64 (m.1 : Int), .int .i64 (m.2 : Int)] 30 (0, 0)) ∧ a₁ = { tmps := #[.pointer (some ⟨a, 0, none⟩), .agg #[.int .i64 kd, .int .i64 N, .int .i64 Sp], .slice wa Lm wc, undef, .pointer (some ⟨w.heap.size, 0, none⟩), .pointer (some ⟨w.heap.size + 1, 0, none⟩), .pointer (some ⟨w.heap.size + 1 + 1, 0, none⟩), .pointer (some ⟨w.heap.size + 1 + 1 + 1, 0, none⟩), .pointer (some ⟨b, 0, none⟩), .pointer (some ⟨a, 0, none⟩), .pointer (some ⟨w.heap.size, 1, none⟩), .int .i64 N, .func (.func gf) #[] lb, mval m, undef, undef, undef, undef, undef, undef, undef, undef, undef, undef, undef, undef, undef, undef, undef, undef, undef, undef, undef, undef, undef, undef, undef, undef, undef, undef, undef, undef], defers := [] })
    (fun Ns k W W' h hc => ⟨h.1, h.2.turn S (by omega) hc⟩) (fun c Ns k W W' h hc => ⟨h.1, h.2.1, h.2.2.turn S (by omega) hc⟩)
    (fun Ns k a₁ W W' ⟨b, m, h0, h1, h2, h3, h4⟩ hc => ⟨b, m, h0, h1, h2.turn S (by omega) hc, hc.cells h3, h4⟩)
    (fun Ns Ns' X Y h hc g1 g2 g3 => ⟨fun z f => by
      rcases g2 z f with e | e
      · exact h.1 z e
      · have := lt_of_blk h.2.nb; omega, h.2.new S hc⟩)
    (fun _ f => f.elim)
    (fun Ns W h => ⟨S.new HF.out h.2.chg, h.2.sq⟩) (fun Ns k W h => ⟨γ, p, S.refl γ, S.new HF.out h.2.chg, h.2.sq⟩) ⟨fun _ f => f.elim, HB0.out⟩ ?assign ?body ?done ?stop)
  case assign =>
    rintro Ns l k hk W ⟨hNs, hA⟩ K hK
    have hkm : k < ms.length := by simpa using hk
    have hv : (ms.map mval)[k] = mval ms[k] := by simp
    rw [hv]
    unfold mval
    have HA : Hid (BegI Sq w (.func (.func gf) #[] lb) sf a kd N Sp wa Lm wc ms k W) := hA
    clear hA
    gi_wp2
    exact hK _ _ ⟨W.heap.size, ms[k], hNs, List.getElem?_eq_getElem hkm, HA.out.new S (chg_one _ _), heap_alloc_last _ _, rfl⟩ (Calm.new (chg_one _ _))
  case body =>
    rintro Ns l k hk a₁ W hBl hrec ⟨b, m, hNs, hmk, hA, hbx, rfl⟩
    have HNS : Hid (∀ z, Ns z → w.heap.size + 4 ≤ z) := hNs
    clear hNs
    have hkm : k < ms.length := by simpa using hk
    have hkL : k < Lm := by omega
    obtain ⟨s0, s1, s2⟩ := cellsN3 hA.sb
    obtain ⟨q1, _⟩ := cells1 hA.wb
    obtain ⟨q2, f2⟩ := cells1 hA.nb
    obtain ⟨q3, f3⟩ := cells1 hA.rb
    have hc7a := cell0 hbx
    have hc7b := cell1 hbx
    obtain ⟨g, hwg, x1, x2⟩ := hA.row k m hmk
    subst hwg
    have hge : decide ((Lm : Int) ≤ (k : Int)) = false := by simp; omega
    have hge' : decide (Lm ≤ k) = false := by simp; omega
    have hki : (k : Int) ≤ 32 := by omega
    have HA : Hid (BegI Sq w (.func (.func gf) #[] lb) sf a kd N Sp (some ⟨g, 0, none⟩) Lm wc ms k W) := hA
    unfold mval
    clear hA hmk hrec
    gi_wp2
    refine wpIn_region_quiet (by kernel_rfl) (by kernel_rfl) (by kernel_rfl) (by rintro ⟨_, _, hh⟩; exact hh) ?_
    repeat (quiet_step (fail))
    refine wpQuiet_nil ?_
    rintro _ ⟨nq, rfl⟩
    have cQ := chg_drewN W nq
    have HA1 : Hid (BegI Sq w (.func (.func gf) #[] lb) sf a kd N Sp (some ⟨g, 0, none⟩) Lm wc ms k (W.drewN nq)) := HA.out.new S cQ
    have HCM : Hid (Calm Ns w1.heap.size W (W.drewN nq)) := Calm.new cQ
    clear cQ s0 s1 s2 q1 q2 q3 f2 f3 x1 x2 hc7a hc7b HA hbx
    generalize W.drewN nq = W1 at *
    obtain ⟨s0, s1, s2⟩ := cellsN3 HA1.out.sb
    obtain ⟨q2, f2⟩ := cells1 HA1.out.nb
    have cS : Chg (fun z => z = w.heap.size + 1 + 1 + 1) W1 (W1.setCell ⟨w.heap.size + 1 + 1 + 1, 0, none⟩ (.int .i64 ((k : Int) + 1))) := (Chg.refl (fun z => z = w.heap.size + 1 + 1 + 1) W1).setCell (p := ⟨w.heap.size + 1 + 1 + 1, 0, none⟩) (.inl rfl) _
    have HA2 : Hid (BegI Sq w (.func (.func gf) #[] lb) sf a kd N Sp (some ⟨g, 0, none⟩) Lm wc ms (k + 1) (W1.setCell ⟨w.heap.size + 1 + 1 + 1, 0, none⟩ (.int .i64 ((k : Int) + 1)))) := by
      refine ⟨blk_keep HA1.out.sb cS (by omega), blk_keep HA1.out.wb cS (by omega), blk_keep HA1.out.rb cS (by omega), blk_set10 HA1.out.nb, fun j m' hj => ?_, HA1.out.chg.trans cS (fun z e => .inr (by omega)), S.sqKeep HA1.out.sq cS (fun z f e => by have := HSF.out z f; omega)⟩
      obtain ⟨g', e, h1, h2⟩ := HA1.out.row j m' hj
      have hg := hwa g' e
      have h3 := World.block_lt_of_cell? W1 _ h1
      have h4 := World.block_lt_of_cell? W1 _ h2
      refine ⟨g', e, ?_, ?_⟩
      · rw [World.cell?_of_block (w := W1) (cS.block _ h3 (by show ¬ g' = _; omega))]; exact h1
      · rw [World.cell?_of_block (w := W1) (cS.block _ h4 (by show ¬ g' = _; omega))]; exact h2
    have HCM2 : Hid (Calm Ns w1.heap.size W (W1.setCell ⟨w.heap.size + 1 + 1 + 1, 0, none⟩ (.int .i64 ((k : Int) + 1)))) := HCM.out.trans (Calm.of cS (fun z e => ⟨fun n => by have := HNS.out z n; omega, .inl (by omega)⟩))
    obtain ⟨t0, t1, t2⟩ := cellsN3 HA2.out.sb
    obtain ⟨u2, _⟩ := cells1 HA2.out.nb
    clear cS HA1 HCM
    by_cases hst : (k : Int) + 1 = Sp
    · have hb1 : (((k : Int) + 1) == Sp) = true := by simp [hst]
      have hb2 : decide ((k : Int) + 1 = Sp) = true := decide_eq_true hst
      have HST : Hid ((k : Int) + 1 = Sp) := hst
      clear hst
      gi_wp2
      exact ⟨HCM2.out, rfl, by rw [Int.natCast_add]; exact HST.out, HA2.out⟩
    · have hb1 : (((k : Int) + 1) == Sp) = false := by rw [beq_eq_false_iff_ne]; exact hst
      have hb2 : decide ((k : Int) + 1 = Sp) = false := decide_eq_false hst
      gi_wp2
      exact ⟨HCM2.out, HNS.out, HA2.out⟩
  case done =>
    rintro Ns D W _ hD ⟨_, hA⟩ hdef
    rw [List.length_map, HLM.out] at hA
    obtain ⟨s0, s1, s2⟩ := cellsN3 hA.sb
    obtain ⟨q1, _⟩ := cells1 hA.wb
    obtain ⟨q2, _⟩ := cells1 hA.nb
    obtain ⟨q3, f3⟩ := cells1 hA.rb
    have HA : Hid (BegI Sq w (.func (.func gf) #[] lb) sf a kd N Sp wa Lm wc ms Lm W) := hA
    have hDK : (W.setCell ⟨w.heap.size + 1 + 1, 0, none⟩ (.bool true)).heap[D]? = some (.deferred (some [])) := blk_keep hdef ((Chg.refl (fun z => z = w.heap.size + 1 + 1) W).setCell (p := ⟨w.heap.size + 1 + 1, 0, none⟩) (.inl rfl) _) (by omega)
    have cS : Chg (fun z => z = w.heap.size + 1 + 1 ∨ z = D) W ((W.setCell ⟨w.heap.size + 1 + 1, 0, none⟩ (.bool true)).putObj D (.deferred none)) := ((Chg.refl (fun z => z = w.heap.size + 1 + 1 ∨ z = D) W).setCell (p := ⟨w.heap.size + 1 + 1, 0, none⟩) (.inl (.inl rfl)) _).trans (chg_put _ D _) (fun z e => .inl (.inr e))
    have hres : ((W.setCell ⟨w.heap.size + 1 + 1, 0, none⟩ (.bool true)).putObj D (.deferred none)).cell? ⟨w.heap.size + 1 + 1, 0, none⟩ = some (.bool true) := by
      have h1 : ((W.setCell ⟨w.heap.size + 1 + 1, 0, none⟩ (.bool true)).putObj D (.deferred none)).heap[w.heap.size + 1 + 1]? = some (.cells #[.bool true] 4 (0, 0)) := (World.putObj_heap_other (by omega)).trans (blk_set10 hA.rb)
      simp [World.cell?, h1]
    have HCE : Hid (Chg (fun _ => False) w ((W.setCell ⟨w.heap.size + 1 + 1, 0, none⟩ (.bool true)).putObj D (.deferred none))) := hA.chg.trans cS (fun z f => .inr (by omega))
    have HRES : Hid _ := hres
    clear hA cS hres
    have hb1 : ((Lm : Int) == (Lm : Int)) = true := by simp
    go_wp2
    refine ⟨by simp, .inl ⟨_, _, rfl, run_takeDeferred hDK, ?_⟩⟩
    have hres := HRES.out
    exact ⟨.bool true, by simp [results, Try.results22, go_sem, hres], rfl, HCE.out⟩
  case stop =>
    rintro Ns D c k W _ hD h1 h2 ⟨rfl, hks, hA⟩ hdef
    rw [List.length_map, HLM.out] at h2
    have hki : (k : Int) ≤ 32 := by omega
    obtain ⟨s0, s1, s2⟩ := cellsN3 hA.sb
    obtain ⟨q1, _⟩ := cells1 hA.wb
    obtain ⟨q2, _⟩ := cells1 hA.nb
    obtain ⟨q3, f3⟩ := cells1 hA.rb
    have HA : Hid (BegI Sq w (.func (.func gf) #[] lb) sf a kd N Sp wa Lm wc ms k W) := hA
    have hDK : (W.setCell ⟨w.heap.size + 1 + 1, 0, none⟩ (.bool true)).heap[D]? = some (.deferred (some [])) := blk_keep hdef ((Chg.refl (fun z => z = w.heap.size + 1 + 1) W).setCell (p := ⟨w.heap.size + 1 + 1, 0, none⟩) (.inl rfl) _) (by omega)
    have cS : Chg (fun z => z = w.heap.size + 1 + 1 ∨ z = D) W ((W.setCell ⟨w.heap.size + 1 + 1, 0, none⟩ (.bool true)).putObj D (.deferred none)) := ((Chg.refl (fun z => z = w.heap.size + 1 + 1 ∨ z = D) W).setCell (p := ⟨w.heap.size + 1 + 1, 0, none⟩) (.inl (.inl rfl)) _).trans (chg_put _ D _) (fun z e => .inl (.inr e))
    have hres : ((W.setCell ⟨w.heap.size + 1 + 1, 0, none⟩ (.bool true)).putObj D (.deferred none)).cell? ⟨w.heap.size + 1 + 1, 0, none⟩ = some (.bool true) := by
      have h1 : ((W.setCell ⟨w.heap.size + 1 + 1, 0, none⟩ (.bool true)).putObj D (.deferred none)).heap[w.heap.size + 1 + 1]? = some (.cells #[.bool true] 4 (0, 0)) := (World.putObj_heap_other (by omega)).trans (blk_set10 hA.rb)
      simp [World.cell?, h1]
    have HCE : Hid (Chg (fun _ => False) w ((W.setCell ⟨w.heap.size + 1 + 1, 0, none⟩ (.bool true)).putObj D (.deferred none))) := hA.chg.trans cS (fun z f => .inr (by omega))
    have HRES : Hid _ := hres
    clear hA cS hres
    refine wpIn_wide.2 ?_
    by_cases hkl : k = Lm
    · subst hkl
      have hb1 : ((k : Int) == (k : Int)) = true := by simp
      go_wp2
      refine ⟨by simp, .inl ⟨_, _, rfl, run_takeDeferred hDK, ?_⟩⟩
      have hres := HRES.out
      exact ⟨.bool true, by simp [results, Try.results22, go_sem, hres], rfl, HCE.out⟩
    · have hb1 : ((k : Int) == (Lm : Int)) = false := by rw [beq_eq_false_iff_ne]; omega
      have hb2 : ((k : Int) == Sp) = true := by rw [hks]; simp
      go_wp2
      refine ⟨by simp, .inl ⟨_, _, rfl, run_takeDeferred hDK, ?_⟩⟩
      have hres := HRES.out
      exact ⟨.bool true, by simp [results, Try.results22, go_sem, hres], rfl, HCE.out⟩
end Go.Proofs.Ytkdionoelbiidaa
