/- The walk through DeltaPieces; of no statement by itself. -/
import Derived.Test.YtefplppgkoanbaaDx
import Derived.BigQuiet
import Derived.BigRegion
import Derived.Deep.QuietTactic
import Derived.Deep.DeepCutAuto
namespace Go.Proofs.Ytefplppgkoanbaa
open Go.RowKit
set_option linter.unusedVariables false
set_option linter.unusedSimpArgs false
/-- A piece that came in. -/
structure Pc19 where
  t : Bool
  a : Option Addr
  n : Nat
  c : Nat
  bs : List Nat
def PcL (w : World) (ad : Option Addr) (L : List Pc19) : Prop := ∀ (k : Nat) (q : Pc19), L[k]? = some q → (Row8 w q.a q.n q.c (nums q.bs) ∧ Rc.Dig q.bs ∧ q.n ≤ q.c ∧ q.n ≤ 1048576) ∧ ∃ b off, ad = some ⟨b, off, none⟩ ∧ w.cell? ⟨b, off + k * 2, none⟩ = some (.bool q.t) ∧ w.cell? ⟨b, off + k * 2 + 1, none⟩ = some (.slice q.a q.n q.c)
def NxJ (B r : Nat) (d : Int) (b : Bool) (u : Value) (all : List Nat) (PC : List Nat) (w3 : World) (q : Nat) (u4 : Value) (w : World) : Prop :=
  Chg (fun z => z = r ∨ u.ownBlock = some z) w3 w ∧ (q = 0 → Chg (fun _ => False) w3 w) ∧ (1 ≤ q → ∃ u', Rf19 w B r d b u' all ∧ Moved w3 u u') ∧ (q = 1 → ∃ oa on oc, u4 = .slice oa on oc ∧ Row8 w oa on oc (nums PC))
variable {Fi : World → Nat → Nat → (Nat → Prop) → Nat → Bool → List Nat → Prop}
/-- What New answers, good or not. -/
theorem new19_any (S : DeltaSpec Fi) (d : Int) (hd : I64 d) (back : Bool) (w : World) : Calls Try.prog 12 #[.int .i64 d, .bool back] w fun e w' => ∃ pv er F, e = .returned (.tuple #[pv, .int .i64 er]) ∧ (goodD d → er = 0 ∧ ∃ a, pv = .pointer (some ⟨a, 0, none⟩) ∧ Fi w' w.heap.size a F d.toNat back []) ∧ (¬ goodD d → er = 6 ∧ pv = .pointer none) ∧ (∀ z, F z → w.heap.size ≤ z ∧ z < w'.heap.size) ∧ Chg (fun _ => False) w w' := by
  by_cases h : goodD d
  · obtain ⟨D, rfl⟩ : ∃ D : Nat, (D : Int) = d := ⟨d.toNat, by have := h.1; omega⟩
    refine (S.new D back w h).mono fun e w' ⟨a, F, he, hf, hc⟩ => ⟨_, _, F, he, fun _ => ⟨rfl, a, rfl, by rw [Int.toNat_natCast]; exact hf⟩, fun f => absurd h f, fun z hz => S.lt hf z hz, hc⟩
  · refine (S.newN d back w h hd).mono fun e w' ⟨he, hc⟩ => ⟨_, _, fun _ => False, he, fun f => absurd f h, fun _ => ⟨rfl, rfl⟩, fun z f => f.elim, hc⟩
set_option maxHeartbeats 16000000 in
set_option maxRecDepth 100000 in
theorem pieces19_any (S : DeltaSpec Fi) (d1 : Int) (i1 : I64 d1) (b1 : Bool) (d2 : Int) (i2 : I64 d2) (b2 : Bool) (ad : Option Addr) (n c : Nat) (L : List Pc19) (w0 : World) (hL : PcL w0 ad L) (hl : L.length = n) (hn : n ≤ 1048576) : Calls Try.prog 7 #[.int .i64 d1, .bool b1, .int .i64 d2, .bool b2, .slice ad n c] w0 fun e w' => e = .returned (.bool true) ∧ Chg (fun _ => False) w0 w' := by
  obtain ⟨jh, hjh, hh0, hh1, hh2⟩ := info_parts Bk.infoHeld
  have HL : Hid (PcL w0 ad L) := hL
  have HLL : Hid (L.length = n) := hl
  have HI : Hid (I64 d1 ∧ I64 d2) := ⟨i1, i2⟩
  have HG : Hid (∀ d ww, I64 d → Calls Try.prog 14 #[.int .i64 d] ww fun e w' => e = .returned (.bool (decide (goodD d))) ∧ ww = w') := fun d ww hd => rgood_q d hd ww
  have hni : (n : Int) ≤ 1048576 := by omega
  clear hL hl i1 i2
  go_enter Try.func7, Try.ntmps7
  go_wp2_with fail
  refine Calls.mono (new19_any S d1 HI.out.1 b1 w0) ?_
  rintro z wa ⟨p1, er1, F1, rfl, hg1, hb1, hF1, c1⟩
  have HN1 : Hid ((goodD d1 → er1 = 0 ∧ ∃ a, p1 = .pointer (some ⟨a, 0, none⟩) ∧ Fi wa w0.heap.size a F1 d1.toNat b1 []) ∧ (¬ goodD d1 → er1 = 6 ∧ p1 = .pointer none) ∧ (∀ z, F1 z → w0.heap.size ≤ z ∧ z < wa.heap.size) ∧ Chg (fun _ => False) w0 wa) := ⟨hg1, hb1, hF1, c1⟩
  clear hg1 hb1 hF1 c1
  go_wp2_with fail
  refine Calls.mono (new19_any S d2 HI.out.2 b2 wa) ?_
  rintro z wb ⟨p2, er2, F2, rfl, hg2, hb2, hF2, c2⟩
  have HN2 : Hid ((goodD d2 → er2 = 0 ∧ ∃ a, p2 = .pointer (some ⟨a, 0, none⟩) ∧ Fi wb wa.heap.size a F2 d2.toNat b2 []) ∧ (¬ goodD d2 → er2 = 6 ∧ p2 = .pointer none) ∧ (∀ z, F2 z → wa.heap.size ≤ z ∧ z < wb.heap.size) ∧ Chg (fun _ => False) wa wb) := ⟨hg2, hb2, hF2, c2⟩
  clear hg2 hb2 hF2 c2
  go_upto_region 3 with fail
  go_cut [63] (fun bv wx => bv = .bool false ∧ wb = wx)
  case first =>
    by_cases h1 : goodD d1
    · by_cases h2 : goodD d2
      · obtain ⟨rfl, a1, rfl, _⟩ := HN1.out.1 h1
        obtain ⟨rfl, a2, rfl, _⟩ := HN2.out.1 h2
        go_wp2_with fail
        refine Calls.mono (HG.out d1 wb HI.out.1) ?_
        rintro z w9 ⟨rfl, rfl⟩
        rw [decide_eq_true h1]
        go_wp2_with fail
        refine Calls.mono (HG.out d2 _ HI.out.2) ?_
        rintro z w9 ⟨rfl, rfl⟩
        rw [decide_eq_true h2]
        go_wp2_with fail
        go_meet
        exact ⟨rfl, rfl⟩
      · obtain ⟨rfl, a1, rfl, _⟩ := HN1.out.1 h1
        obtain ⟨rfl, rfl⟩ := HN2.out.2.1 h2
        go_wp2_with fail
        refine Calls.mono (HG.out d1 wb HI.out.1) ?_
        rintro z w9 ⟨rfl, rfl⟩
        rw [decide_eq_true h1]
        go_wp2_with fail
        refine Calls.mono (HG.out d2 _ HI.out.2) ?_
        rintro z w9 ⟨rfl, rfl⟩
        rw [decide_eq_false h2]
        go_wp2_with fail
        go_meet
        exact ⟨rfl, rfl⟩
    · by_cases h2 : goodD d2
      · obtain ⟨rfl, rfl⟩ := HN1.out.2.1 h1
        obtain ⟨rfl, a2, rfl, _⟩ := HN2.out.1 h2
        go_wp2_with fail
        refine Calls.mono (HG.out d1 wb HI.out.1) ?_
        rintro z w9 ⟨rfl, rfl⟩
        rw [decide_eq_false h1]
        go_wp2_with fail
        refine Calls.mono (HG.out d2 _ HI.out.2) ?_
        rintro z w9 ⟨rfl, rfl⟩
        rw [decide_eq_true h2]
        go_wp2_with fail
        go_meet
        exact ⟨rfl, rfl⟩
      · obtain ⟨rfl, rfl⟩ := HN1.out.2.1 h1
        obtain ⟨rfl, rfl⟩ := HN2.out.2.1 h2
        go_wp2_with fail
        refine Calls.mono (HG.out d1 wb HI.out.1) ?_
        rintro z w9 ⟨rfl, rfl⟩
        rw [decide_eq_false h1]
        go_wp2_with fail
        refine Calls.mono (HG.out d2 _ HI.out.2) ?_
        rintro z w9 ⟨rfl, rfl⟩
        rw [decide_eq_false h2]
        go_wp2_with fail
        go_meet
        exact ⟨rfl, rfl⟩
  case rest =>
  obtain ⟨rfl, rfl⟩ := hcut
  go_upto_region 5 with fail
  go_cut [77] (fun bv wx => bv = .bool false ∧ wb = wx)
  case first =>
    by_cases h1 : goodD d1
    · by_cases h2 : goodD d2
      · obtain ⟨rfl, a1, rfl, _⟩ := HN1.out.1 h1
        obtain ⟨rfl, a2, rfl, _⟩ := HN2.out.1 h2
        go_wp2_with fail
        go_meet
        exact ⟨rfl, rfl⟩
      · obtain ⟨rfl, a1, rfl, _⟩ := HN1.out.1 h1
        obtain ⟨rfl, rfl⟩ := HN2.out.2.1 h2
        go_wp2_with fail
        go_meet
        exact ⟨rfl, rfl⟩
    · by_cases h2 : goodD d2
      · obtain ⟨rfl, rfl⟩ := HN1.out.2.1 h1
        obtain ⟨rfl, a2, rfl, _⟩ := HN2.out.1 h2
        go_wp2_with fail
        go_meet
        exact ⟨rfl, rfl⟩
      · obtain ⟨rfl, rfl⟩ := HN1.out.2.1 h1
        obtain ⟨rfl, rfl⟩ := HN2.out.2.1 h2
        go_wp2_with fail
        go_meet
        exact ⟨rfl, rfl⟩
  case rest =>
  obtain ⟨rfl, rfl⟩ := hcut
  have HST : Hid (Dxs Fi w0 ((wb.alloc (.cells #[.int .i64 d1, .bool b1, .slice none 0 0] 41)).alloc (.cells #[.int .i64 d2, .bool b2, .slice none 0 0] 41)) d1 b1 p1 wb.heap.size (.slice none 0 0) F1 [] d2 b2 p2 (wb.heap.size + 1) (.slice none 0 0) F2 [] (.slice none 0 0) [] 0) := by
    have c12 : Chg (fun _ => False) wb ((wb.alloc (.cells #[.int .i64 d1, .bool b1, .slice none 0 0] 41)).alloc (.cells #[.int .i64 d2, .bool b2, .slice none 0 0] 41)) := ((Chg.refl _ wb).alloc _).alloc _
    have cb : Chg (fun _ => False) w0 wb := chg_then HN1.out.2.2.2 HN2.out.2.2.2
    have k1 : ((wb.alloc (.cells #[.int .i64 d1, .bool b1, .slice none 0 0] 41)).alloc (.cells #[.int .i64 d2, .bool b2, .slice none 0 0] 41)).heap[wb.heap.size]? = some (.cells #[.int .i64 d1, .bool b1, .slice none 0 0] 41 (0, 0)) := blk_keep (heap_alloc_last wb _) (chg_one _ _) (fun f => f)
    have k2 : ((wb.alloc (.cells #[.int .i64 d1, .bool b1, .slice none 0 0] 41)).alloc (.cells #[.int .i64 d2, .bool b2, .slice none 0 0] 41)).heap[wb.heap.size + 1]? = some (.cells #[.int .i64 d2, .bool b2, .slice none 0 0] 41 (0, 0)) := by
      have := heap_alloc_last (wb.alloc (.cells #[.int .i64 d1, .bool b1, .slice none 0 0] 41)) (.cells #[.int .i64 d2, .bool b2, .slice none 0 0] 41)
      rw [World.size_alloc] at this
      exact this
    have s0 := cb.size
    have s1 := HN2.out.2.2.2.size
    have s2 := HN1.out.2.2.2.size
    have nn : ∀ z, (Value.slice none 0 0).ownBlock ≠ some z := fun z e => by simp [Value.ownBlock] at e
    refine ⟨chg_then cb c12, ⟨⟨s0, k1, byO_nil _ _⟩, fun h => ?_, fun h => (HN1.out.2.1 h).2, fun z f => ⟨(HN1.out.2.2.1 z f).1, ?_⟩, fun z f => ⟨?_, nn z⟩, fun x hx => by simp at hx⟩, ⟨⟨by omega, k2, byO_nil _ _⟩, fun h => ?_, fun h => (HN2.out.2.1 h).2, fun z f => ⟨Nat.le_trans s2 (HN2.out.2.2.1 z f).1, ?_⟩, fun z f => ⟨?_, nn z⟩, fun x hx => by simp at hx⟩, fun z f g => ?_, Bk.Bk.nil _ _, fun j a e => by simp at e, fun g e => absurd e (nn g), by simp, by simp, by simp⟩
    · obtain ⟨_, a, e, hf⟩ := HN1.out.1 h
      exact ⟨a, e, S.keep hf (chg_then HN2.out.2.2.2 c12) (fun _ _ f => f)⟩
    · have := (HN1.out.2.2.1 z f).2
      have := c12.size
      omega
    · have := (HN1.out.2.2.1 z f).2
      omega
    · obtain ⟨_, a, e, hf⟩ := HN2.out.1 h
      exact ⟨a, e, S.down (S.keep hf c12 (fun _ _ f => f)) s2⟩
    · have := (HN2.out.2.2.1 z f).2
      have := c12.size
      omega
    · have := (HN2.out.2.2.1 z f).2
      omega
    · rcases f with f | f | f
      · have h1 := (HN1.out.2.2.1 z f).2
        rcases g with g | g | g
        · have := (HN2.out.2.2.1 z g).1; omega
        · omega
        · exact nn z g
      · rcases g with g | g | g
        · have := (HN2.out.2.2.1 z g).2; omega
        · omega
        · exact nn z g
      · exact nn z f
  go_upto_region 10 with fail
  generalize ((wb.alloc (.cells #[.int .i64 d1, .bool b1, .slice none 0 0] 41)).alloc (.cells #[.int .i64 d2, .bool b2, .slice none 0 0] 41)) = wc at *
  generalize wb.heap.size = r1 at *
  obtain ⟨r2, hr2⟩ : ∃ r2, r1 + 1 = r2 := ⟨_, rfl⟩
  rw [hr2] at HST ⊢
  have HNO : Hid ((¬ goodD d1 → p1 = .pointer none) ∧ (goodD d1 → ∃ a, p1 = .pointer (some ⟨a, 0, none⟩)) ∧ (¬ goodD d2 → p2 = .pointer none) ∧ (goodD d2 → ∃ a, p2 = .pointer (some ⟨a, 0, none⟩))) := ⟨fun h => (HN1.out.2.1 h).2, fun h => by obtain ⟨_, a, e, _⟩ := HN1.out.1 h; exact ⟨a, e⟩, fun h => (HN2.out.2.1 h).2, fun h => by obtain ⟨_, a, e, _⟩ := HN2.out.1 h; exact ⟨a, e⟩⟩
  clear HN1 HN2 HG hr2
  go_wp2_with fail
  go_loopw [17, 88] (fun bv i wr => ∃ k : Nat, k ≤ n ∧ i = .int .i64 (k : Int) ∧ ∃ u1 F1 l1 u2 F2 l2 hs, Hid (Dxs Fi w0 wr d1 b1 p1 r1 u1 F1 l1 d2 b2 p2 r2 u2 F2 l2 bv hs k)) (fun _ i _ => n - (intOf i).toNat)
  case atStart => exact ⟨0, by omega, rfl, _, _, _, _, _, _, _, HST⟩
  case round =>
    clear HST
    obtain ⟨k, hk, rfl, u1, F1, l1, u2, F2, l2, hs, HST⟩ := hrel
    have hki : (k : Int) ≤ (n : Int) := by omega
    by_cases hlt : k < n
    · have d1' : decide ((k : Int) < (n : Int)) = true := decide_eq_true (by omega)
      have d1'' : decide (k < n) = true := decide_eq_true hlt
      obtain ⟨q, hq⟩ : ∃ q, L[k]? = some q := ⟨L[k]'(by rw [HLL.out]; exact hlt), List.getElem?_eq_getElem _⟩
      obtain ⟨⟨hqr, hqd, hqc, hqn⟩, b, off, rfl, x0, x1⟩ := HL.out k q hq
      replace x0 := cell_chg x0 HST.out.chg
      replace x1 := cell_chg x1 HST.out.chg
      obtain ⟨qt, qa, qn, qc, bs⟩ := q
      simp only at hqr hqd hqc hqn x0 x1
      have HQR : Hid (Row8 w0 qa qn qc (nums bs)) := hqr
      have HQD : Hid (Rc.Dig bs) := hqd
      have HQB : Hid (bs.length = qn) := by have h9 := hqr.1; rw [nums_len] at h9; exact h9
      obtain ⟨hbf, hbl⟩ : ∃ x y, u17 = .slice x hs.length y := by
        rcases Bk.book_shape HST.out.bk.book with ⟨e, e2⟩ | ⟨g, cap, e⟩
        · exact ⟨none, 0, by rw [e, e2]⟩
        · exact ⟨_, cap, e⟩
      obtain ⟨hbl, rfl⟩ := hbl
      have hhs := HST.out.nh
      have hhi : (hs.length : Int) ≤ 1048576 := by omega
      clear hqr hqd hq
      cases qt with
      | false =>
        have HA : Hid (Dxs Fi w0 wr d1 b1 p1 r1 u1 F1 l1 d2 b2 p2 r2 u2 F2 l2 (.slice hbf hs.length hbl) hs k) := HST.out
        have cA := chg_one wr (.cells #[.bool false, .slice qa qn qc] 44)
        have HA1 : Hid _ := HA.out.new S cA
        have HBX : Hid ((wr.alloc (.cells #[.bool false, .slice qa qn qc] 44)).heap[wr.heap.size]? = some (.cells #[.bool false, .slice qa qn qc] 44 (0, 0))) := heap_alloc_last wr _
        have HSZ : Hid (wr.heap.size < (wr.alloc (.cells #[.bool false, .slice qa qn qc] 44)).heap.size) := by show _ < _; simp
        have HLT : Hid (∀ z, RqF r1 u1 F1 z → z < wr.heap.size) := fun z f => (HA.out.q1.rlt f).2
        have HLT2 : Hid (∀ z, RqF r2 u2 F2 z → z < wr.heap.size) := fun z f => (HA.out.q2.rlt f).2
        have HT0 : Hid (w0.heap.size ≤ wr.heap.size) := HA.out.chg.size
        have HLB : Hid (∀ z, (Value.slice hbf hs.length hbl).ownBlock = some z → z < wr.heap.size) := fun z e => by obtain ⟨cur, hb⟩ := Bk.own_blk HA.out.bk.book e; exact lt_of_blk hb
        have HLH : Hid (∀ (j : Nat) (a : Bk.Hd), hs[j]? = some a → ∀ z, a.v.ownBlock = some z → z < wr.heap.size) := fun j a e z hz => ((HA.out.bk.rows j a e).lt hz).2
        clear cA
        by_cases hgd : goodD d1
        · obtain ⟨a, hpe⟩ := HNO.out.2.1 hgd
          rw [hpe] at HA1 HA
          obtain ⟨D, hD⟩ : ∃ D : Nat, (D : Int) = d1 := ⟨d1.toNat, by have := hgd.1; omega⟩
          have HFI0 : Hid (Fi (wr.alloc (.cells #[.bool false, .slice qa qn qc] 44)) w0.heap.size a F1 D b1 l1) := by
            obtain ⟨a', e, hf⟩ := HA1.out.q1.yes hgd
            simp only [Value.pointer.injEq, Option.some.injEq, Addr.mk.injEq] at e
            obtain ⟨rfl, _⟩ := e
            rw [← hD, Int.toNat_natCast] at hf
            exact hf
          rw [hpe]
          have HPE : Hid (p1 = .pointer (some ⟨a, 0, none⟩)) := hpe
          have HGD : Hid (goodD d1) := hgd
          have HDD : Hid ((D : Int) = d1) := hD
          clear hpe hgd hD
          go_wp2_with fail
          generalize hW : wr.alloc (.cells #[.bool false, .slice qa qn qc] 44) = W at *
          obtain ⟨bx, hbx⟩ : ∃ bx, wr.heap.size = bx := ⟨_, rfl⟩
          rw [hbx] at HBX HSZ HLT HLT2 HLB HLH HT0 ⊢
          have HRW : Hid (Row8 W qa qn qc (nums bs)) := row8_keep HQR.out HA1.out.chg (fun _ _ f => f)
          refine Calls.mono (lent_any qa qn qc bs W HRW.out (by omega)) ?_
          rintro z w2 ⟨fa, fc, rfl, hfull, hfc, c2⟩
          have HA2 : Hid _ := HA1.out.new S c2
          have HFU : Hid (ByO w2 W.heap.size (.slice fa (qn + 1) fc) (bs ++ [165])) := hfull
          have HC2 : Hid (Chg (fun _ => False) W w2) := c2
          have HFI : Hid (Fi w2 w0.heap.size a F1 D b1 l1) := S.keep HFI0.out c2 (fun _ _ f => f)
          have hfci : (qn : Int) + 1 ≤ (fc : Int) := by omega
          clear hfull c2 hW hbx x0 x1
          go_wp2_with fail
          refine Calls.mono (S.next w0.heap.size a D F1 b1 l1 fa qn fc bs w2 HFI.out HA2.out.chg.size (row8_front HFU.out) (fun x9 h9 e9 => off_own HFU.out (fun z f => (S.lt HFI0.out z f).2) x9 (Nat.succ_pos _) e9) HQD.out (by omega) (by omega)) ?_
          rintro z w3 ⟨ov, F', rfl, hFi, hov, hovF, cF, hFF⟩
          obtain ⟨xa, xc, hxe⟩ := byO_form hov
          rw [De19.piece_len, HQB.out] at hxe
          subst hxe
          have HOV : Hid (ByO w3 w2.heap.size (.slice xa qn xc) (De19.piece b1 D l1 bs)) := hov
          have HFN : Hid (Fi w3 w0.heap.size a F' D b1 (l1 ++ bs) ∧ (∀ g, (Value.slice xa qn xc).ownBlock = some g → ¬ F' g) ∧ Chg F1 w2 w3 ∧ ∀ z, F' z → F1 z ∨ w2.heap.size ≤ z) := ⟨hFi, hovF, cF, hFF⟩
          have hs2 : W.heap.size ≤ w2.heap.size := HC2.out.size
          have hs3 : w2.heap.size ≤ w3.heap.size := cF.size
          clear hFi hov hovF cF hFF HFI HFI0
          -- what is fixed while the document's filter goes on
          have HRF3 : Hid (Rf19 w3 w0.heap.size r1 (D : Int) b1 u1 l1) := by
            have h9 := HA2.out.q1.rf.keep HFN.out.2.2.1 (fun f => (HA2.out.q1.sep _ f).1 rfl) (fun g e f => (HA2.out.q1.sep _ f).2 e)
            rw [← HDD.out] at h9
            exact h9
          have HFO : Hid (∀ ww, Chg (fun z => z = r1 ∨ u1.ownBlock = some z) w3 ww → ByO ww W.heap.size (.slice fa (qn + 1) fc) (bs ++ [165])) := fun ww hw => by
            refine ownsRow_keep (ownsRow_keep HFU.out HFN.out.2.2.1 (fun g e f => ?_)) hw (fun g e f => ?_)
            · have h1 := (HFU.out.lt g e).1
              have h2 := HLT.out g (.inl f)
              have := HSZ.out
              omega
            · have h1 := (HFU.out.lt g e).1
              have h2 := HLT.out g (.inr f)
              have := HSZ.out
              omega
          have HXO : Hid (∀ ww, Chg (fun z => z = r1 ∨ u1.ownBlock = some z) w3 ww → ByO ww w2.heap.size (.slice xa qn xc) (De19.piece b1 D l1 bs)) := fun ww hw => ownsRow_keep HOV.out hw (fun g e f => by
            have h1 := (HOV.out.lt g e).1
            have h2 := HLT.out g (.inr f)
            have := HSZ.out
            omega)
          have HBC : Hid (∀ ww, Chg (fun z => z = r1 ∨ u1.ownBlock = some z) w3 ww → ww.cell? ⟨bx, 1, none⟩ = some (.slice qa qn qc)) := fun ww hw => cell1 (blk_keep (blk_keep (blk_keep HBX.out HC2.out (fun f => f)) HFN.out.2.2.1 (fun f => by have := HLT.out bx (.inl f); omega)) hw (fun f => by have := HLT.out bx (.inr f); omega))
          obtain ⟨ST, hST⟩ : ∃ s, strOfNums (nums (De19.piece b1 D l1 bs)) = s := ⟨_, rfl⟩
          have HST9 : Hid (strOfNums (nums (De19.piece b1 D l1 bs)) = ST) := hST
          have HXV : Hid (∀ ww, Chg (fun z => z = r1 ∨ u1.ownBlock = some z) w3 ww → (convert 22 9 (.slice xa qn xc)).run Try.prog ww = .ok (.string ST) ww) := fun ww hw => by rw [← hST]; exact Bk.conv8_here (byO_row (HXO.out ww hw)).1
          have HQW : Hid (∀ ww, Chg (fun z => z = r1 ∨ u1.ownBlock = some z) w3 ww → Row8 ww qa qn qc (nums bs)) := fun ww hw => row8_keep HQR.out (((HA2.out.chg.trans HFN.out.2.2.1 (fun z f => .inr (HA2.out.q1.rlt (.inl f)).1)).trans hw (fun z f => .inr (HA2.out.q1.rlt (.inr f)).1)) : Chg (fun _ => False) w0 ww) (fun _ _ f => f)
          have hll := HA.out.n1
          have hlb : l1.length + qn ≤ 140737488355328 := by
            have : k * 1048576 ≤ 1048576 * 1048576 := Nat.mul_le_mul_right _ (by omega)
            omega
          have HRN : Hid (∀ ww, Chg (fun _ => False) w3 ww → Calls Try.prog 16 #[.pointer (some ⟨r1, 0, none⟩), .slice qa qn qc] ww fun e w' => ∃ oa on oc u', e = .returned (.slice oa on oc) ∧ Row8 w' oa on oc (nums (De19.piece b1 D l1 bs)) ∧ Rf19 w' w0.heap.size r1 (D : Int) b1 u' (l1 ++ bs) ∧ Chg (fun z => z = r1 ∨ u1.ownBlock = some z) ww w' ∧ Moved ww u1 u') := fun ww hw => rnext19_any w0.heap.size r1 D b1 u1 l1 bs qa qn qc ww (HRF3.out.keep hw (fun f => f) (fun _ _ f => f)) (by have := HA2.out.chg.size; have := hw.size; omega) (HQW.out ww (hw.mono (fun _ f => f.elim))) HQD.out HA.out.q1.dig (by rw [HDD.out]; exact HGD.out) hlb
          have HKP : Hid (∀ ww, Chg (fun z => z = r1 ∨ u1.ownBlock = some z) w3 ww → Calls Try.prog 17 #[.slice fa (qn + 1) fc, .slice qa qn qc] ww fun e w' => e = .returned (.bool true) ∧ Chg (fun _ => False) ww w') := fun ww hw => kept_q W.heap.size fa qn fc bs qa qc ww (HFO.out ww hw) (HQW.out ww hw) (by omega)
          clear hST hll
          go_upto_region 21 with fail
          refine wp_region_phaseQ (mk := fun u => #[_, _, _, _, _, _, _, _, _, _, _, _, _, _, _, _, _, _, _, _, _, _, _, _, _, _, _, _, _, _, _, _, _, _, _, _, _, _, _, _, _, _, _, _, _, _, _, _, _, _, _, _, _, _, _, _, _, _, _, _, _, _, _, _, _, _, _, _, _, _, _, _, _, _, _, _, _, _, _, _, _, _, _, _, _, _, _, _, _, _, _, _, _, _, _, _, _, _, _, _, _, _, _, _, _, _, _, _, _, u 109, u 110, u 111, u 112, u 113, u 114, u 115, u 116, u 117, u 118, u 119, u 120, u 121, u 122, _, _, _, _, _, _, _, _, _, _, _, _, _, _, _, _, _, _, _, _, _, _, _, _, _]) (G := lookG [(109, .slice xa qn xc), (110, .string ST), (111, .pointer (some ⟨r1, 0, none⟩)), (112, .pointer (some ⟨bx, 1, none⟩)), (113, .slice qa qn qc), (115, .string ST), (116, .bool false), (117, .bool false), (118, .slice fa (qn + 1) fc), (119, .pointer (some ⟨bx, 1, none⟩)), (120, .slice qa qn qc), (121, .bool true), (122, .bool false)]) (J := fun q u ww => NxJ w0.heap.size r1 (D : Int) b1 u1 (l1 ++ bs) (De19.piece b1 D l1 bs) w3 q (u 114) ww) [5, 6, 7, 8, 12] (fun i =>  5) ([]) (fun slot => match slot with | 109 => u109 | 110 => u110 | 111 => u111 | 112 => u112 | 113 => u113 | 114 => u114 | 115 => u115 | 116 => u116 | 117 => u117 | 118 => u118 | 119 => u119 | 120 => u120 | 121 => u121 | 122 => u122 | _ => undef) rfl (by kernel_rfl) 14 _ rfl rfl (by kernel_rfl) (by kernel_rfl) (by kernel_rfl) (by decide) ?_ ?_ ?_ (by kernel_rfl) ?_ ?_
          · repeat (refine ⟨fun _ _ => rfl, ?_⟩)
            exact trivial
          · intro q u u2 ww h hj
            have e114 : u 114 = u2 114 := h 5 (by decide)
            show NxJ _ _ _ _ _ _ _ _ _ _ _
            rw [← e114]
            exact hj
          · exact ⟨(Chg.refl _ w3).drew, fun _ => (Chg.refl _ w3).drew, fun e => absurd e (by omega), fun e => absurd e (by omega)⟩
          · refine ⟨?_, ?_, ?_, ?_, ?_, ?_, ?_, ?_, ?_, ?_, ?_, ?_, ?_, ?_, trivial⟩
            · show StepRQ _ _ _ _ _ _ _ _ _ -- 109
              unfold StepRQ
              intro qn_ hq u w_ hj hd K hK
              clear hd
              go_simp
              exact hK.out (.slice xa qn xc) rfl
            · show StepRQ _ _ _ _ _ _ _ _ _ -- 110
              unfold StepRQ
              intro qn_ hq u w_ hj hd K hK
              have h109 : u 109 = .slice xa qn xc := hd.get 0 (by kernel_rfl)
              clear hd
              simp only [h109] at hK
              have x9 := HXV.out w_ hj.1
              clear hj
              go_simp
              exact hK.out _ rfl
            · show StepRQ _ _ _ _ _ _ _ _ _ -- 111
              unfold StepRQ
              intro qn_ hq u w_ hj hd K hK
              clear hd
              go_simp
              exact hK.out (.pointer (some ⟨r1, 0, none⟩)) rfl
            · show StepRQ _ _ _ _ _ _ _ _ _ -- 112
              unfold StepRQ
              intro qn_ hq u w_ hj hd K hK
              clear hd
              go_simp
              exact hK.out (.pointer (some ⟨bx, 1, none⟩)) rfl
            · show StepRQ _ _ _ _ _ _ _ _ _ -- 113
              unfold StepRQ
              intro qn_ hq u w_ hj hd K hK
              have h112 : u 112 = .pointer (some ⟨bx, 1, none⟩) := hd.get 3 (by kernel_rfl)
              clear hd
              simp only [h112] at hK
              have x9 := HBC.out w_ hj.1
              clear hj
              go_simp
              exact hK.out _ rfl
            · show StepWQ _ _ _ _ _ _ _ _ _ -- 114
              unfold StepWQ
              intro u w_ hj hd K hK
              have h111 : u 111 = .pointer (some ⟨r1, 0, none⟩) := hd.get 2 (by kernel_rfl)
              have h113 : u 113 = .slice qa qn qc := hd.get 4 (by kernel_rfl)
              clear hd
              simp only [h111, h113] at hK
              have HJ : Hid _ := hj
              clear hj
              go_simp
              go_at_call 16
              have hc9 := HJ.out.2.1 rfl
              refine (HRN.out w_ hc9).mono ?_
              rintro z w2 ⟨oa, on, oc, u', rfl, hrow, hrf, c2, hm2⟩
              exact hK.out _ w2 ⟨HJ.out.1.trans c2 (fun z f => .inl f), fun e => absurd e (by omega), fun _ => ⟨u', hrf, moved_from hc9.size hm2⟩, fun _ => ⟨oa, on, oc, rfl, hrow⟩⟩ trivial
            · show StepWQ _ _ _ _ _ _ _ _ _ -- 115
              unfold StepWQ
              intro u w_ hj hd K hK
              clear hd
              obtain ⟨hc9, _, h3, h4⟩ := hj
              obtain ⟨oa, on, oc, e114, hrow⟩ := h4 rfl
              have x9 : (convert 22 9 (.slice oa on oc)).run Try.prog w_ = .ok (.string ST) w_ := by rw [← HST9.out]; exact Bk.conv8_here hrow
              have H3 : Hid _ := h3
              clear h4 hrow h3
              simp only [e114] at hK ⊢
              go_simp
              exact hK.out _ _ ⟨hc9, fun e => absurd e (by omega), fun _ => H3.out (by omega), fun e => absurd e (by omega)⟩ rfl
            · show StepWQ _ _ _ _ _ _ _ _ _ -- 116
              unfold StepWQ
              intro u w_ hj hd K hK
              have h110 : u 110 = .string ST := hd.get 1 (by kernel_rfl)
              have h115 : u 115 = .string ST := hd.get 6 (by kernel_rfl)
              clear hd
              simp only [h110, h115] at hK
              have HJ : Hid _ := hj
              clear hj
              go_simp
              exact hK.out _ _ ⟨HJ.out.1, fun e => absurd e (by omega), fun _ => HJ.out.2.2.1 (by omega), fun e => absurd e (by omega)⟩ rfl
            · show StepWQ _ _ _ _ _ _ _ _ _ -- 117
              unfold StepWQ
              intro u w_ hj hd K hK
              have h116 : u 116 = .bool false := hd.get 7 (by kernel_rfl)
              clear hd
              simp only [h116] at hK
              have HJ : Hid _ := hj
              clear hj
              go_simp
              exact hK.out _ _ ⟨HJ.out.1, fun e => absurd e (by omega), fun _ => HJ.out.2.2.1 (by omega), fun e => absurd e (by omega)⟩ rfl
            · show StepRQ _ _ _ _ _ _ _ _ _ -- 118
              unfold StepRQ
              intro qn_ hq u w_ hj hd K hK
              have h117 : u 117 = .bool false := hd.get 8 (by kernel_rfl)
              clear hd
              simp only [h117] at hK
              go_simp
              exact hK.out (.slice fa (qn + 1) fc) rfl
            · show StepRQ _ _ _ _ _ _ _ _ _ -- 119
              unfold StepRQ
              intro qn_ hq u w_ hj hd K hK
              have h117 : u 117 = .bool false := hd.get 8 (by kernel_rfl)
              clear hd
              simp only [h117] at hK
              go_simp
              exact hK.out (.pointer (some ⟨bx, 1, none⟩)) rfl
            · show StepRQ _ _ _ _ _ _ _ _ _ -- 120
              unfold StepRQ
              intro qn_ hq u w_ hj hd K hK
              have h119 : u 119 = .pointer (some ⟨bx, 1, none⟩) := hd.get 10 (by kernel_rfl)
              have h117 : u 117 = .bool false := hd.get 8 (by kernel_rfl)
              clear hd
              simp only [h119, h117] at hK
              have x9 := HBC.out w_ hj.1
              clear hj
              go_simp
              exact hK.out _ rfl
            · show StepWQ _ _ _ _ _ _ _ _ _ -- 121
              unfold StepWQ
              intro u w_ hj hd K hK
              have h118 : u 118 = .slice fa (qn + 1) fc := hd.get 9 (by kernel_rfl)
              have h120 : u 120 = .slice qa qn qc := hd.get 11 (by kernel_rfl)
              have h117 : u 117 = .bool false := hd.get 8 (by kernel_rfl)
              clear hd
              simp only [h118, h120, h117] at hK
              have HJ : Hid _ := hj
              clear hj
              go_simp
              go_at_call 17
              refine (HKP.out w_ HJ.out.1).mono ?_
              rintro z w2 ⟨rfl, c2⟩
              exact hK.out _ w2 ⟨HJ.out.1.trans c2 (fun _ f => f.elim), fun e => absurd e (by omega), fun _ => (by obtain ⟨u', hrf, hm2⟩ := HJ.out.2.2.1 (by omega); exact ⟨u', hrf.keep c2 (fun f => f) (fun _ _ f => f), hm2⟩), fun e => absurd e (by omega)⟩ rfl
            · show StepRQ _ _ _ _ _ _ _ _ _ -- 122
              unfold StepRQ
              intro qn_ hq u w_ hj hd K hK
              have h121 : u 121 = .bool true := hd.get 12 (by kernel_rfl)
              have h117 : u 117 = .bool false := hd.get 8 (by kernel_rfl)
              clear hd
              simp only [h121, h117] at hK
              go_simp
              exact hK.out (.bool false) rfl
          · intro u_ w7 hj hA K hK
            obtain ⟨hc7, _, h7, _⟩ := hj
            obtain ⟨u', hrf, hmv⟩ := h7 (by decide)
            have h117 : u_ 117 = .bool false := hA.at 117 (by kernel_rfl)
            have h122 : u_ 122 = .bool false := hA.at 122 (by kernel_rfl)
            have HC7 : Hid (Chg (fun z => z = r1 ∨ u1.ownBlock = some z) w3 w7) := hc7
            have HRF : Hid (Rf19 w7 w0.heap.size r1 (D : Int) b1 u' (l1 ++ bs) ∧ Moved w3 u1 u') := ⟨hrf, hmv⟩
            clear h7 hA hc7 hrf hmv
            simp only [h117, h122] at hK ⊢
            go_simp
            refine hK.out _ _ ?_
            clear hK h117 h122
            have HT : Hid (Dxs Fi w0 w7 d1 b1 (.pointer (some ⟨a, 0, none⟩)) r1 u' F' (l1 ++ bs) d2 b2 p2 r2 u2 F2 l2 (.slice hbf hs.length hbl) hs (k + 1)) := by
              have cR : Chg (RqF r1 u1 F1) w2 w7 := (HFN.out.2.2.1.mono (fun z f => .inl (.inl f))).trans HC7.out (fun z f => .inl (.inr f))
              have hFi7 : Fi w7 w0.heap.size a F' D b1 (l1 ++ bs) := S.keep HFN.out.1 HC7.out (fun z f g => by
                rcases HFN.out.2.2.2 z f with f0 | f0
                · have h9 := HA2.out.q1.sep z f0
                  rcases g with g | g
                  · exact h9.1 g
                  · exact h9.2 g
                · have := HLT.out z (.inr g)
                  have := HSZ.out
                  omega)
              have hlt3 : ∀ z, F' z → z < w3.heap.size := fun z f => (S.lt HFN.out.1 z f).2
              have hw := HSZ.out
              refine HA2.out.turn S cR ⟨by rw [← HDD.out]; exact HRF.out.1, fun _ => ⟨a, rfl, by rw [← HDD.out, Int.toNat_natCast]; exact hFi7⟩, fun h => absurd HGD.out h, fun z f => S.lt hFi7 z f, fun z f => ⟨fun e => ?_, fun e => ?_⟩, fun x hx => ?_⟩ (fun z f => ?_) ?_
              · rcases HFN.out.2.2.2 z f with f0 | f0
                · exact (HA2.out.q1.sep z f0).1 e
                · have := HLT.out r1 (.inr (.inl rfl))
                  omega
              · rcases HRF.out.2 z e with e0 | e0
                · rcases HFN.out.2.2.2 z f with f0 | f0
                  · exact (HA2.out.q1.sep z f0).2 e0
                  · have := HLT.out z (.inr (.inr e0))
                    omega
                · have := hlt3 z f
                  omega
              · rcases List.mem_append.1 hx with e | e
                · exact HA2.out.q1.dig x e
                · exact HQD.out x e
              · rcases f with f | f | f
                · rcases HFN.out.2.2.2 z f with f0 | f0
                  · exact .inl (.inl f0)
                  · exact .inr f0
                · exact .inl (.inr (.inl f))
                · rcases HRF.out.2 z f with e0 | e0
                  · exact .inl (.inr (.inr e0))
                  · exact .inr (by omega)
              · have e1 : (k + 1) * 1048576 = k * 1048576 + 1048576 := Nat.succ_mul k 1048576
                have h9 := HA.out.n1
                rw [e1, List.length_append, HQB.out]
                omega
            have HRO : Hid (∀ z, RqF r1 u' F' z → z < bx ∨ w2.heap.size ≤ z) := fun z f => by
              rcases f with f | f | f
              · rcases HFN.out.2.2.2 z f with f0 | f0
                · exact .inl (HLT.out z (.inl f0))
                · exact .inr f0
              · exact .inl (HLT.out z (.inr (.inl f)))
              · rcases HRF.out.2 z f with e0 | e0
                · exact .inl (HLT.out z (.inr (.inr e0)))
                · exact .inr (by omega)
            have HXR : Hid (∀ z, (Value.slice xa qn xc).ownBlock = some z → w2.heap.size ≤ z ∧ z < w3.heap.size ∧ ¬ RqF r1 u' F' z) := fun z e => by
              have h1 := HOV.out.lt z e
              refine ⟨h1.1, h1.2, fun f => ?_⟩
              have hw := HSZ.out
              rcases f with f | f | f
              · exact HFN.out.2.1 z e f
              · have := HLT.out r1 (.inr (.inl rfl))
                omega
              · rcases HRF.out.2 z f with e0 | e0
                · have := HLT.out z (.inr (.inr e0))
                  omega
                · omega
            have HX7 : Hid (ByO w7 w2.heap.size (.slice xa qn xc) (De19.piece b1 D l1 bs)) := HXO.out w7 HC7.out
            have HF7 : Hid (ByO w7 W.heap.size (.slice fa (qn + 1) fc) (bs ++ [165])) := HFO.out w7 HC7.out
            have HFB : Hid (∀ z, (Value.slice fa (qn + 1) fc).ownBlock = some z → W.heap.size ≤ z ∧ z < w2.heap.size) := fun z e => HFU.out.lt z e
            have HS7 : Hid (w3.heap.size ≤ w7.heap.size) := HC7.out.size
            clear HKP HRN HQW HXV HBC HXO HFO HRF3 HST9 HRF HC7 HOV HFN HFU HC2 HA2 HA HA1 HBX HST HRW
            obtain ⟨gf, hgf⟩ : ∃ gf, fa = some ⟨gf, 0, none⟩ := by
              have h9 := HF7.out
              unfold ByO at h9
              have hle1 : (bs ++ [165] : List Nat).length = qn + 1 := by simp [HQB.out]
              rw [hle1] at h9
              obtain ⟨g, c', e, _⟩ := own_some h9 (by omega)
              simp only [Value.slice.injEq] at e
              exact ⟨g, e.1⟩
            subst hgf
            have hqi : (qn : Int) ≤ 1048576 := by omega
            go_wp2_with fail
            go_loopw [126] (fun i wr => ∃ t : Nat, t ≤ qn + 1 ∧ i = .int .i64 (t : Int) ∧ Hid (∃ b9, ByO wr W.heap.size (.slice (some ⟨gf, 0, none⟩) (qn + 1) fc) b9) ∧ Hid (Chg (fun z => z = gf) w7 wr)) (fun i _ => qn + 1 - (intOf i).toNat)
            case atStart => exact ⟨0, by omega, rfl, ⟨_, HF7.out⟩, Chg.refl _ _⟩
            case round =>
              obtain ⟨t, ht, rfl, HB9, HC9⟩ := hrel
              have hti : (t : Int) ≤ (qn : Int) + 1 := by omega
              by_cases htl : t < qn + 1
              · have d5 : decide ((t : Int) < (qn : Int) + 1) = true := decide_eq_true (by omega)
                have d5' : decide (t < qn + 1) = true := decide_eq_true htl
                have hti2 : (t : Int) < (qn : Int) + 1 := by omega
                obtain ⟨b9, hb9⟩ := HB9.out
                obtain ⟨y, ky, fy⟩ := byO_cellD hb9 htl
                have hw8 : IntKind.u8.wrap ((y : Int) + 101) = (((y + 101) % 256 : Nat) : Int) := by simp [IntKind.wrap, IntKind.signed, IntKind.bits]
                have HBN : Hid (∃ b9, ByO (wr.setCell ⟨gf, t, none⟩ (.int .u8 (((y + 101) % 256 : Nat) : Int))) W.heap.size (.slice (some ⟨gf, 0, none⟩) (qn + 1) fc) b9) := ⟨_, byO_setD hb9 htl _⟩
                have HCN : Hid (Chg (fun z => z = gf) w7 (wr.setCell ⟨gf, t, none⟩ (.int .u8 (((y + 101) % 256 : Nat) : Int)))) := HC9.out.setCell (p := ⟨gf, t, none⟩) (.inl rfl) _
                generalize (y + 101) % 256 = y9 at *
                clear hb9 HB9 HC9
                go_wp2
                go_roundw
                case rel => exact ⟨t + 1, by omega, by go_num, HBN, HCN⟩
                case measure => simp [intOf]; omega
              · have htn : t = qn + 1 := by omega
                have d5 : decide ((t : Int) < (qn : Int) + 1) = false := decide_eq_false (by omega)
                have d5' : decide (t < qn + 1) = false := decide_eq_false htl
                have hgb := HFB.out gf rfl
                have hwb := HSZ.out
                have HT8 : Hid (Dxs Fi w0 wr d1 b1 (.pointer (some ⟨a, 0, none⟩)) r1 u' F' (l1 ++ bs) d2 b2 p2 r2 u2 F2 l2 (.slice hbf hs.length hbl) hs (k + 1)) := HT.out.keep S HC9.out (fun z e => by subst e; exact Nat.le_trans (Nat.le_trans HT0.out (Nat.le_of_lt hwb)) hgb.1) (fun z e f => by subst e; rcases HRO.out z f with h | h <;> omega) (fun z e f => by subst e; have := HLT2.out z f; omega) (fun z e f => by subst e; have := HLB.out z f; omega) (fun z e j a ej f => by subst e; have := HLH.out j a ej z f; omega)
                have hx8 : ByO wr w2.heap.size (.slice xa qn xc) (De19.piece b1 D l1 bs) := ownsRow_keep HX7.out HC9.out (fun g e f => by subst f; have := (HXR.out g e).1; omega)
                have hpl : (De19.piece b1 D l1 bs).length = qn := by rw [De19.piece_len, HQB.out]
                have hx9 : wr.ownsRow w0.heap.size 5 1 (.slice xa qn xc) qn (Bk.cells8 (nums (De19.piece b1 D l1 bs))) := by
                  have h9 := owns_base hx8 (B' := w0.heap.size) (Nat.le_trans HT0.out (by omega))
                  rw [hpl] at h9
                  exact h9
                have hs8 : w7.heap.size ≤ wr.heap.size := HC9.out.size
                have HHO : Hid _ := Bk.hold_any w0.heap.size (.slice xa qn xc) (nums (De19.piece b1 D l1 bs)) qn hs.length wr (by omega) hx9 HT8.out.chg.size (by omega)
                clear hx8 hx9 HC9 HB9 HT
                generalize wr = w8 at *
                go_wp2_with fail
                refine Calls.mono HHO.out ?_
                rintro z w9 ⟨h', va, vc, rfl, hv', hok, hn', hrow, c9, hm9⟩
                have HT9 : Hid (Dxs Fi w0 w9 d1 b1 (.pointer (some ⟨a, 0, none⟩)) r1 u' F' (l1 ++ bs) d2 b2 p2 r2 u2 F2 l2 (.slice hbf hs.length hbl) hs (k + 1)) := HT8.out.keep S c9 (fun z e => Nat.le_trans HT0.out (by have := (HXR.out z e).1; omega)) (fun z e f => (HXR.out z e).2.2 f) (fun z e f => by have := (HXR.out z e).1; have := HLT2.out z f; omega) (fun z e f => by have := (HXR.out z e).1; have := HLB.out z f; omega) (fun z e j a ej f => by have := (HXR.out z e).1; have := HLH.out j a ej z f; omega)
                have HHD : Hid (h'.v = .slice va h'.ys.length vc ∧ h'.ok ∧ h'.n = qn ∧ Bk.Row w0.heap.size w9 h' ∧ Moved w8 (.slice xa qn xc) h'.v) := ⟨hv', hok, hn', hrow, hm9⟩
                obtain ⟨yl, hyl⟩ : ∃ yl, h'.ys.length = yl := ⟨_, rfl⟩
                rw [hyl] at HHD ⊢
                have hcl : h'.cells = [.slice va yl vc, .int .i64 h'.n, .int .u8 h'.mark, .string h'.want, .bool h'.kept] := by unfold Bk.Hd.cells; rw [HHD.out.1]
                have hbo := Bk.own_keep HT9.out.bk.book (chg_one w9 (.cells #[.slice va yl vc, .int .i64 h'.n, .int .u8 h'.mark, .string h'.want, .bool h'.kept] 49)) (fun _ _ f => f)
                have hfr9 := Bk.from_held w9 w9.heap.size rfl (.slice va yl vc) (.int .i64 h'.n) (.int .u8 h'.mark) (.string h'.want) (.bool h'.kept)
                have hs9 : w8.heap.size ≤ w9.heap.size := c9.size
                clear hv' hok hn' hrow hm9 c9 HHO HX7
                go_wp2_with (at_builtin; refine wpList_append_moved rfl (.tmp 138) (.tmp 143) 42 rfl w0.heap.size 49 jh (.agg #[.slice none 0 0, .int .i64 0, .int .u8 0, .string ⟨#[]⟩, .bool false]) 5 64 Try.underlying42 hjh hh0 hh1 hh2 rfl (by decide) _ hs.length (Bk.hcells hs) rfl (some ⟨w9.heap.size, 0, none⟩) 1 1 rfl [.slice va yl vc, .int .i64 h'.n, .int .u8 h'.mark, .string h'.want, .bool h'.kept] hbo hfr9 (fun y hy => by simp at hy; rcases hy with rfl | rfl | rfl | rfl | rfl <;> rfl) (by unfold maxLen; omega) (by omega) (Nat.le_trans HT9.out.chg.size (chg_one w9 _).size) ?_)
                intro v5 w10 ho10 hg10 hm10
                rw [← hcl] at ho10
                have HTE : Hid (Dxs Fi w0 w10 d1 b1 (.pointer (some ⟨a, 0, none⟩)) r1 u' F' (l1 ++ bs) d2 b2 p2 r2 u2 F2 l2 v5 (hs ++ [h']) (k + 1)) := HT9.out.push S (by omega) HHD.out.2.2.2.1 (fun i a e g ga gh => by
                  have h1 := HLH.out i a e g ga
                  rcases HHD.out.2.2.2.2 g gh with h2 | h2
                  · have := (HXR.out g h2).1
                    omega
                  · have := HS7.out
                    omega) (fun g gh => by
                  rcases HHD.out.2.2.2.2 g gh with h2 | h2
                  · exact ⟨(HXR.out g h2).2.2, fun f => by have := (HXR.out g h2).1; have := HLT2.out g f; omega⟩
                  · exact ⟨fun f => by have := (HT8.out.q1.rlt f).2; omega, fun f => by have := (HT8.out.q2.rlt f).2; omega⟩) HHD.out.2.1 (by rw [HHD.out.2.2.1]; omega) ho10 hg10 hm10
                have HTE2 : Hid _ := HTE.out
                obtain ⟨bf9, bl9, hv5⟩ : ∃ x y, v5 = .slice x (hs.length + 1) y := by
                  rcases Bk.book_shape ho10 with ⟨_, e2⟩ | ⟨g, cap, e⟩
                  · omega
                  · exact ⟨_, cap, e⟩
                subst hv5
                clear ho10 hg10 hm10 hbo hfr9 hcl HTE HT8 HT9 HHD
                go_wp2
                go_roundw
                case rel => exact ⟨k + 1, by omega, by go_num, _, _, _, _, _, _, _, HTE2⟩
                case measure => simp [intOf]; omega
        · have hpe := HNO.out.1 hgd
          rw [hpe]
          have HA3 : Hid _ := HA1.out.more
          rw [hpe] at HA3
          clear HA1 HA HBX HSZ HLT HLT2 HLB HLH HT0 hpe
          go_wp2
          go_roundw
          case rel => exact ⟨k + 1, by omega, by go_num, _, _, _, _, _, _, _, HA3⟩
          case measure => simp [intOf]; omega
      | true =>
        have HA : Hid (Dxs Fi w0 wr d2 b2 p2 r2 u2 F2 l2 d1 b1 p1 r1 u1 F1 l1 (.slice hbf hs.length hbl) hs k) := HST.out.swap
        have cA := chg_one wr (.cells #[.bool true, .slice qa qn qc] 44)
        have HA1 : Hid _ := HA.out.new S cA
        have HBX : Hid ((wr.alloc (.cells #[.bool true, .slice qa qn qc] 44)).heap[wr.heap.size]? = some (.cells #[.bool true, .slice qa qn qc] 44 (0, 0))) := heap_alloc_last wr _
        have HSZ : Hid (wr.heap.size < (wr.alloc (.cells #[.bool true, .slice qa qn qc] 44)).heap.size) := by show _ < _; simp
        have HLT : Hid (∀ z, RqF r2 u2 F2 z → z < wr.heap.size) := fun z f => (HA.out.q1.rlt f).2
        have HLT2 : Hid (∀ z, RqF r1 u1 F1 z → z < wr.heap.size) := fun z f => (HA.out.q2.rlt f).2
        have HT0 : Hid (w0.heap.size ≤ wr.heap.size) := HA.out.chg.size
        have HLB : Hid (∀ z, (Value.slice hbf hs.length hbl).ownBlock = some z → z < wr.heap.size) := fun z e => by obtain ⟨cur, hb⟩ := Bk.own_blk HA.out.bk.book e; exact lt_of_blk hb
        have HLH : Hid (∀ (j : Nat) (a : Bk.Hd), hs[j]? = some a → ∀ z, a.v.ownBlock = some z → z < wr.heap.size) := fun j a e z hz => ((HA.out.bk.rows j a e).lt hz).2
        clear cA
        by_cases hgd : goodD d2
        · obtain ⟨a, hpe⟩ := HNO.out.2.2.2 hgd
          rw [hpe] at HA1 HA
          obtain ⟨D, hD⟩ : ∃ D : Nat, (D : Int) = d2 := ⟨d2.toNat, by have := hgd.1; omega⟩
          have HFI0 : Hid (Fi (wr.alloc (.cells #[.bool true, .slice qa qn qc] 44)) w0.heap.size a F2 D b2 l2) := by
            obtain ⟨a', e, hf⟩ := HA1.out.q1.yes hgd
            simp only [Value.pointer.injEq, Option.some.injEq, Addr.mk.injEq] at e
            obtain ⟨rfl, _⟩ := e
            rw [← hD, Int.toNat_natCast] at hf
            exact hf
          rw [hpe]
          have HPE : Hid (p2 = .pointer (some ⟨a, 0, none⟩)) := hpe
          have HGD : Hid (goodD d2) := hgd
          have HDD : Hid ((D : Int) = d2) := hD
          clear hpe hgd hD
          go_wp2_with fail
          generalize hW : wr.alloc (.cells #[.bool true, .slice qa qn qc] 44) = W at *
          obtain ⟨bx, hbx⟩ : ∃ bx, wr.heap.size = bx := ⟨_, rfl⟩
          rw [hbx] at HBX HSZ HLT HLT2 HLB HLH HT0 ⊢
          have HRW : Hid (Row8 W qa qn qc (nums bs)) := row8_keep HQR.out HA1.out.chg (fun _ _ f => f)
          refine Calls.mono (lent_any qa qn qc bs W HRW.out (by omega)) ?_
          rintro z w2 ⟨fa, fc, rfl, hfull, hfc, c2⟩
          have HA2 : Hid _ := HA1.out.new S c2
          have HFU : Hid (ByO w2 W.heap.size (.slice fa (qn + 1) fc) (bs ++ [165])) := hfull
          have HC2 : Hid (Chg (fun _ => False) W w2) := c2
          have HFI : Hid (Fi w2 w0.heap.size a F2 D b2 l2) := S.keep HFI0.out c2 (fun _ _ f => f)
          have hfci : (qn : Int) + 1 ≤ (fc : Int) := by omega
          clear hfull c2 hW hbx x0 x1
          go_wp2_with fail
          refine Calls.mono (S.next w0.heap.size a D F2 b2 l2 fa qn fc bs w2 HFI.out HA2.out.chg.size (row8_front HFU.out) (fun x9 h9 e9 => off_own HFU.out (fun z f => (S.lt HFI0.out z f).2) x9 (Nat.succ_pos _) e9) HQD.out (by omega) (by omega)) ?_
          rintro z w3 ⟨ov, F', rfl, hFi, hov, hovF, cF, hFF⟩
          obtain ⟨xa, xc, hxe⟩ := byO_form hov
          rw [De19.piece_len, HQB.out] at hxe
          subst hxe
          have HOV : Hid (ByO w3 w2.heap.size (.slice xa qn xc) (De19.piece b2 D l2 bs)) := hov
          have HFN : Hid (Fi w3 w0.heap.size a F' D b2 (l2 ++ bs) ∧ (∀ g, (Value.slice xa qn xc).ownBlock = some g → ¬ F' g) ∧ Chg F2 w2 w3 ∧ ∀ z, F' z → F2 z ∨ w2.heap.size ≤ z) := ⟨hFi, hovF, cF, hFF⟩
          have hs2 : W.heap.size ≤ w2.heap.size := HC2.out.size
          have hs3 : w2.heap.size ≤ w3.heap.size := cF.size
          clear hFi hov hovF cF hFF HFI HFI0
          -- what is fixed while the document's filter goes on
          have HRF3 : Hid (Rf19 w3 w0.heap.size r2 (D : Int) b2 u2 l2) := by
            have h9 := HA2.out.q1.rf.keep HFN.out.2.2.1 (fun f => (HA2.out.q1.sep _ f).1 rfl) (fun g e f => (HA2.out.q1.sep _ f).2 e)
            rw [← HDD.out] at h9
            exact h9
          have HFO : Hid (∀ ww, Chg (fun z => z = r2 ∨ u2.ownBlock = some z) w3 ww → ByO ww W.heap.size (.slice fa (qn + 1) fc) (bs ++ [165])) := fun ww hw => by
            refine ownsRow_keep (ownsRow_keep HFU.out HFN.out.2.2.1 (fun g e f => ?_)) hw (fun g e f => ?_)
            · have h1 := (HFU.out.lt g e).1
              have h2 := HLT.out g (.inl f)
              have := HSZ.out
              omega
            · have h1 := (HFU.out.lt g e).1
              have h2 := HLT.out g (.inr f)
              have := HSZ.out
              omega
          have HXO : Hid (∀ ww, Chg (fun z => z = r2 ∨ u2.ownBlock = some z) w3 ww → ByO ww w2.heap.size (.slice xa qn xc) (De19.piece b2 D l2 bs)) := fun ww hw => ownsRow_keep HOV.out hw (fun g e f => by
            have h1 := (HOV.out.lt g e).1
            have h2 := HLT.out g (.inr f)
            have := HSZ.out
            omega)
          have HBC : Hid (∀ ww, Chg (fun z => z = r2 ∨ u2.ownBlock = some z) w3 ww → ww.cell? ⟨bx, 1, none⟩ = some (.slice qa qn qc)) := fun ww hw => cell1 (blk_keep (blk_keep (blk_keep HBX.out HC2.out (fun f => f)) HFN.out.2.2.1 (fun f => by have := HLT.out bx (.inl f); omega)) hw (fun f => by have := HLT.out bx (.inr f); omega))
          obtain ⟨ST, hST⟩ : ∃ s, strOfNums (nums (De19.piece b2 D l2 bs)) = s := ⟨_, rfl⟩
          have HST9 : Hid (strOfNums (nums (De19.piece b2 D l2 bs)) = ST) := hST
          have HXV : Hid (∀ ww, Chg (fun z => z = r2 ∨ u2.ownBlock = some z) w3 ww → (convert 22 9 (.slice xa qn xc)).run Try.prog ww = .ok (.string ST) ww) := fun ww hw => by rw [← hST]; exact Bk.conv8_here (byO_row (HXO.out ww hw)).1
          have HQW : Hid (∀ ww, Chg (fun z => z = r2 ∨ u2.ownBlock = some z) w3 ww → Row8 ww qa qn qc (nums bs)) := fun ww hw => row8_keep HQR.out (((HA2.out.chg.trans HFN.out.2.2.1 (fun z f => .inr (HA2.out.q1.rlt (.inl f)).1)).trans hw (fun z f => .inr (HA2.out.q1.rlt (.inr f)).1)) : Chg (fun _ => False) w0 ww) (fun _ _ f => f)
          have hll := HA.out.n1
          have hlb : l2.length + qn ≤ 140737488355328 := by
            have : k * 1048576 ≤ 1048576 * 1048576 := Nat.mul_le_mul_right _ (by omega)
            omega
          have HRN : Hid (∀ ww, Chg (fun _ => False) w3 ww → Calls Try.prog 16 #[.pointer (some ⟨r2, 0, none⟩), .slice qa qn qc] ww fun e w' => ∃ oa on oc u', e = .returned (.slice oa on oc) ∧ Row8 w' oa on oc (nums (De19.piece b2 D l2 bs)) ∧ Rf19 w' w0.heap.size r2 (D : Int) b2 u' (l2 ++ bs) ∧ Chg (fun z => z = r2 ∨ u2.ownBlock = some z) ww w' ∧ Moved ww u2 u') := fun ww hw => rnext19_any w0.heap.size r2 D b2 u2 l2 bs qa qn qc ww (HRF3.out.keep hw (fun f => f) (fun _ _ f => f)) (by have := HA2.out.chg.size; have := hw.size; omega) (HQW.out ww (hw.mono (fun _ f => f.elim))) HQD.out HA.out.q1.dig (by rw [HDD.out]; exact HGD.out) hlb
          have HKP : Hid (∀ ww, Chg (fun z => z = r2 ∨ u2.ownBlock = some z) w3 ww → Calls Try.prog 17 #[.slice fa (qn + 1) fc, .slice qa qn qc] ww fun e w' => e = .returned (.bool true) ∧ Chg (fun _ => False) ww w') := fun ww hw => kept_q W.heap.size fa qn fc bs qa qc ww (HFO.out ww hw) (HQW.out ww hw) (by omega)
          clear hST hll
          go_upto_region 21 with fail
          refine wp_region_phaseQ (mk := fun u => #[_, _, _, _, _, _, _, _, _, _, _, _, _, _, _, _, _, _, _, _, _, _, _, _, _, _, _, _, _, _, _, _, _, _, _, _, _, _, _, _, _, _, _, _, _, _, _, _, _, _, _, _, _, _, _, _, _, _, _, _, _, _, _, _, _, _, _, _, _, _, _, _, _, _, _, _, _, _, _, _, _, _, _, _, _, _, _, _, _, _, _, _, _, _, _, _, _, _, _, _, _, _, _, _, _, _, _, _, _, u 109, u 110, u 111, u 112, u 113, u 114, u 115, u 116, u 117, u 118, u 119, u 120, u 121, u 122, _, _, _, _, _, _, _, _, _, _, _, _, _, _, _, _, _, _, _, _, _, _, _, _, _]) (G := lookG [(109, .slice xa qn xc), (110, .string ST), (111, .pointer (some ⟨r2, 0, none⟩)), (112, .pointer (some ⟨bx, 1, none⟩)), (113, .slice qa qn qc), (115, .string ST), (116, .bool false), (117, .bool false), (118, .slice fa (qn + 1) fc), (119, .pointer (some ⟨bx, 1, none⟩)), (120, .slice qa qn qc), (121, .bool true), (122, .bool false)]) (J := fun q u ww => NxJ w0.heap.size r2 (D : Int) b2 u2 (l2 ++ bs) (De19.piece b2 D l2 bs) w3 q (u 114) ww) [5, 6, 7, 8, 12] (fun i =>  5) ([]) (fun slot => match slot with | 109 => u109 | 110 => u110 | 111 => u111 | 112 => u112 | 113 => u113 | 114 => u114 | 115 => u115 | 116 => u116 | 117 => u117 | 118 => u118 | 119 => u119 | 120 => u120 | 121 => u121 | 122 => u122 | _ => undef) rfl (by kernel_rfl) 14 _ rfl rfl (by kernel_rfl) (by kernel_rfl) (by kernel_rfl) (by decide) ?_ ?_ ?_ (by kernel_rfl) ?_ ?_
          · repeat (refine ⟨fun _ _ => rfl, ?_⟩)
            exact trivial
          · intro q u u2 ww h hj
            have e114 : u 114 = u2 114 := h 5 (by decide)
            show NxJ _ _ _ _ _ _ _ _ _ _ _
            rw [← e114]
            exact hj
          · exact ⟨(Chg.refl _ w3).drew, fun _ => (Chg.refl _ w3).drew, fun e => absurd e (by omega), fun e => absurd e (by omega)⟩
          · refine ⟨?_, ?_, ?_, ?_, ?_, ?_, ?_, ?_, ?_, ?_, ?_, ?_, ?_, ?_, trivial⟩
            · show StepRQ _ _ _ _ _ _ _ _ _ -- 109
              unfold StepRQ
              intro qn_ hq u w_ hj hd K hK
              clear hd
              go_simp
              exact hK.out (.slice xa qn xc) rfl
            · show StepRQ _ _ _ _ _ _ _ _ _ -- 110
              unfold StepRQ
              intro qn_ hq u w_ hj hd K hK
              have h109 : u 109 = .slice xa qn xc := hd.get 0 (by kernel_rfl)
              clear hd
              simp only [h109] at hK
              have x9 := HXV.out w_ hj.1
              clear hj
              go_simp
              exact hK.out _ rfl
            · show StepRQ _ _ _ _ _ _ _ _ _ -- 111
              unfold StepRQ
              intro qn_ hq u w_ hj hd K hK
              clear hd
              go_simp
              exact hK.out (.pointer (some ⟨r2, 0, none⟩)) rfl
            · show StepRQ _ _ _ _ _ _ _ _ _ -- 112
              unfold StepRQ
              intro qn_ hq u w_ hj hd K hK
              clear hd
              go_simp
              exact hK.out (.pointer (some ⟨bx, 1, none⟩)) rfl
            · show StepRQ _ _ _ _ _ _ _ _ _ -- 113
              unfold StepRQ
              intro qn_ hq u w_ hj hd K hK
              have h112 : u 112 = .pointer (some ⟨bx, 1, none⟩) := hd.get 3 (by kernel_rfl)
              clear hd
              simp only [h112] at hK
              have x9 := HBC.out w_ hj.1
              clear hj
              go_simp
              exact hK.out _ rfl
            · show StepWQ _ _ _ _ _ _ _ _ _ -- 114
              unfold StepWQ
              intro u w_ hj hd K hK
              have h111 : u 111 = .pointer (some ⟨r2, 0, none⟩) := hd.get 2 (by kernel_rfl)
              have h113 : u 113 = .slice qa qn qc := hd.get 4 (by kernel_rfl)
              clear hd
              simp only [h111, h113] at hK
              have HJ : Hid _ := hj
              clear hj
              go_simp
              go_at_call 16
              have hc9 := HJ.out.2.1 rfl
              refine (HRN.out w_ hc9).mono ?_
              rintro z w2 ⟨oa, on, oc, u', rfl, hrow, hrf, c2, hm2⟩
              exact hK.out _ w2 ⟨HJ.out.1.trans c2 (fun z f => .inl f), fun e => absurd e (by omega), fun _ => ⟨u', hrf, moved_from hc9.size hm2⟩, fun _ => ⟨oa, on, oc, rfl, hrow⟩⟩ trivial
            · show StepWQ _ _ _ _ _ _ _ _ _ -- 115
              unfold StepWQ
              intro u w_ hj hd K hK
              clear hd
              obtain ⟨hc9, _, h3, h4⟩ := hj
              obtain ⟨oa, on, oc, e114, hrow⟩ := h4 rfl
              have x9 : (convert 22 9 (.slice oa on oc)).run Try.prog w_ = .ok (.string ST) w_ := by rw [← HST9.out]; exact Bk.conv8_here hrow
              have H3 : Hid _ := h3
              clear h4 hrow h3
              simp only [e114] at hK ⊢
              go_simp
              exact hK.out _ _ ⟨hc9, fun e => absurd e (by omega), fun _ => H3.out (by omega), fun e => absurd e (by omega)⟩ rfl
            · show StepWQ _ _ _ _ _ _ _ _ _ -- 116
              unfold StepWQ
              intro u w_ hj hd K hK
              have h110 : u 110 = .string ST := hd.get 1 (by kernel_rfl)
              have h115 : u 115 = .string ST := hd.get 6 (by kernel_rfl)
              clear hd
              simp only [h110, h115] at hK
              have HJ : Hid _ := hj
              clear hj
              go_simp
              exact hK.out _ _ ⟨HJ.out.1, fun e => absurd e (by omega), fun _ => HJ.out.2.2.1 (by omega), fun e => absurd e (by omega)⟩ rfl
            · show StepWQ _ _ _ _ _ _ _ _ _ -- 117
              unfold StepWQ
              intro u w_ hj hd K hK
              have h116 : u 116 = .bool false := hd.get 7 (by kernel_rfl)
              clear hd
              simp only [h116] at hK
              have HJ : Hid _ := hj
              clear hj
              go_simp
              exact hK.out _ _ ⟨HJ.out.1, fun e => absurd e (by omega), fun _ => HJ.out.2.2.1 (by omega), fun e => absurd e (by omega)⟩ rfl
            · show StepRQ _ _ _ _ _ _ _ _ _ -- 118
              unfold StepRQ
              intro qn_ hq u w_ hj hd K hK
              have h117 : u 117 = .bool false := hd.get 8 (by kernel_rfl)
              clear hd
              simp only [h117] at hK
              go_simp
              exact hK.out (.slice fa (qn + 1) fc) rfl
            · show StepRQ _ _ _ _ _ _ _ _ _ -- 119
              unfold StepRQ
              intro qn_ hq u w_ hj hd K hK
              have h117 : u 117 = .bool false := hd.get 8 (by kernel_rfl)
              clear hd
              simp only [h117] at hK
              go_simp
              exact hK.out (.pointer (some ⟨bx, 1, none⟩)) rfl
            · show StepRQ _ _ _ _ _ _ _ _ _ -- 120
              unfold StepRQ
              intro qn_ hq u w_ hj hd K hK
              have h119 : u 119 = .pointer (some ⟨bx, 1, none⟩) := hd.get 10 (by kernel_rfl)
              have h117 : u 117 = .bool false := hd.get 8 (by kernel_rfl)
              clear hd
              simp only [h119, h117] at hK
              have x9 := HBC.out w_ hj.1
              clear hj
              go_simp
              exact hK.out _ rfl
            · show StepWQ _ _ _ _ _ _ _ _ _ -- 121
              unfold StepWQ
              intro u w_ hj hd K hK
              have h118 : u 118 = .slice fa (qn + 1) fc := hd.get 9 (by kernel_rfl)
              have h120 : u 120 = .slice qa qn qc := hd.get 11 (by kernel_rfl)
              have h117 : u 117 = .bool false := hd.get 8 (by kernel_rfl)
              clear hd
              simp only [h118, h120, h117] at hK
              have HJ : Hid _ := hj
              clear hj
              go_simp
              go_at_call 17
              refine (HKP.out w_ HJ.out.1).mono ?_
              rintro z w2 ⟨rfl, c2⟩
              exact hK.out _ w2 ⟨HJ.out.1.trans c2 (fun _ f => f.elim), fun e => absurd e (by omega), fun _ => (by obtain ⟨u', hrf, hm2⟩ := HJ.out.2.2.1 (by omega); exact ⟨u', hrf.keep c2 (fun f => f) (fun _ _ f => f), hm2⟩), fun e => absurd e (by omega)⟩ rfl
            · show StepRQ _ _ _ _ _ _ _ _ _ -- 122
              unfold StepRQ
              intro qn_ hq u w_ hj hd K hK
              have h121 : u 121 = .bool true := hd.get 12 (by kernel_rfl)
              have h117 : u 117 = .bool false := hd.get 8 (by kernel_rfl)
              clear hd
              simp only [h121, h117] at hK
              go_simp
              exact hK.out (.bool false) rfl
          · intro u_ w7 hj hA K hK
            obtain ⟨hc7, _, h7, _⟩ := hj
            obtain ⟨u', hrf, hmv⟩ := h7 (by decide)
            have h117 : u_ 117 = .bool false := hA.at 117 (by kernel_rfl)
            have h122 : u_ 122 = .bool false := hA.at 122 (by kernel_rfl)
            have HC7 : Hid (Chg (fun z => z = r2 ∨ u2.ownBlock = some z) w3 w7) := hc7
            have HRF : Hid (Rf19 w7 w0.heap.size r2 (D : Int) b2 u' (l2 ++ bs) ∧ Moved w3 u2 u') := ⟨hrf, hmv⟩
            clear h7 hA hc7 hrf hmv
            simp only [h117, h122] at hK ⊢
            go_simp
            refine hK.out _ _ ?_
            clear hK h117 h122
            have HT : Hid (Dxs Fi w0 w7 d2 b2 (.pointer (some ⟨a, 0, none⟩)) r2 u' F' (l2 ++ bs) d1 b1 p1 r1 u1 F1 l1 (.slice hbf hs.length hbl) hs (k + 1)) := by
              have cR : Chg (RqF r2 u2 F2) w2 w7 := (HFN.out.2.2.1.mono (fun z f => .inl (.inl f))).trans HC7.out (fun z f => .inl (.inr f))
              have hFi7 : Fi w7 w0.heap.size a F' D b2 (l2 ++ bs) := S.keep HFN.out.1 HC7.out (fun z f g => by
                rcases HFN.out.2.2.2 z f with f0 | f0
                · have h9 := HA2.out.q1.sep z f0
                  rcases g with g | g
                  · exact h9.1 g
                  · exact h9.2 g
                · have := HLT.out z (.inr g)
                  have := HSZ.out
                  omega)
              have hlt3 : ∀ z, F' z → z < w3.heap.size := fun z f => (S.lt HFN.out.1 z f).2
              have hw := HSZ.out
              refine HA2.out.turn S cR ⟨by rw [← HDD.out]; exact HRF.out.1, fun _ => ⟨a, rfl, by rw [← HDD.out, Int.toNat_natCast]; exact hFi7⟩, fun h => absurd HGD.out h, fun z f => S.lt hFi7 z f, fun z f => ⟨fun e => ?_, fun e => ?_⟩, fun x hx => ?_⟩ (fun z f => ?_) ?_
              · rcases HFN.out.2.2.2 z f with f0 | f0
                · exact (HA2.out.q1.sep z f0).1 e
                · have := HLT.out r2 (.inr (.inl rfl))
                  omega
              · rcases HRF.out.2 z e with e0 | e0
                · rcases HFN.out.2.2.2 z f with f0 | f0
                  · exact (HA2.out.q1.sep z f0).2 e0
                  · have := HLT.out z (.inr (.inr e0))
                    omega
                · have := hlt3 z f
                  omega
              · rcases List.mem_append.1 hx with e | e
                · exact HA2.out.q1.dig x e
                · exact HQD.out x e
              · rcases f with f | f | f
                · rcases HFN.out.2.2.2 z f with f0 | f0
                  · exact .inl (.inl f0)
                  · exact .inr f0
                · exact .inl (.inr (.inl f))
                · rcases HRF.out.2 z f with e0 | e0
                  · exact .inl (.inr (.inr e0))
                  · exact .inr (by omega)
              · have e1 : (k + 1) * 1048576 = k * 1048576 + 1048576 := Nat.succ_mul k 1048576
                have h9 := HA.out.n1
                rw [e1, List.length_append, HQB.out]
                omega
            have HRO : Hid (∀ z, RqF r2 u' F' z → z < bx ∨ w2.heap.size ≤ z) := fun z f => by
              rcases f with f | f | f
              · rcases HFN.out.2.2.2 z f with f0 | f0
                · exact .inl (HLT.out z (.inl f0))
                · exact .inr f0
              · exact .inl (HLT.out z (.inr (.inl f)))
              · rcases HRF.out.2 z f with e0 | e0
                · exact .inl (HLT.out z (.inr (.inr e0)))
                · exact .inr (by omega)
            have HXR : Hid (∀ z, (Value.slice xa qn xc).ownBlock = some z → w2.heap.size ≤ z ∧ z < w3.heap.size ∧ ¬ RqF r2 u' F' z) := fun z e => by
              have h1 := HOV.out.lt z e
              refine ⟨h1.1, h1.2, fun f => ?_⟩
              have hw := HSZ.out
              rcases f with f | f | f
              · exact HFN.out.2.1 z e f
              · have := HLT.out r2 (.inr (.inl rfl))
                omega
              · rcases HRF.out.2 z f with e0 | e0
                · have := HLT.out z (.inr (.inr e0))
                  omega
                · omega
            have HX7 : Hid (ByO w7 w2.heap.size (.slice xa qn xc) (De19.piece b2 D l2 bs)) := HXO.out w7 HC7.out
            have HF7 : Hid (ByO w7 W.heap.size (.slice fa (qn + 1) fc) (bs ++ [165])) := HFO.out w7 HC7.out
            have HFB : Hid (∀ z, (Value.slice fa (qn + 1) fc).ownBlock = some z → W.heap.size ≤ z ∧ z < w2.heap.size) := fun z e => HFU.out.lt z e
            have HS7 : Hid (w3.heap.size ≤ w7.heap.size) := HC7.out.size
            clear HKP HRN HQW HXV HBC HXO HFO HRF3 HST9 HRF HC7 HOV HFN HFU HC2 HA2 HA HA1 HBX HST HRW
            obtain ⟨gf, hgf⟩ : ∃ gf, fa = some ⟨gf, 0, none⟩ := by
              have h9 := HF7.out
              unfold ByO at h9
              have hle1 : (bs ++ [165] : List Nat).length = qn + 1 := by simp [HQB.out]
              rw [hle1] at h9
              obtain ⟨g, c', e, _⟩ := own_some h9 (by omega)
              simp only [Value.slice.injEq] at e
              exact ⟨g, e.1⟩
            subst hgf
            have hqi : (qn : Int) ≤ 1048576 := by omega
            go_wp2_with fail
            go_loopw [126] (fun i wr => ∃ t : Nat, t ≤ qn + 1 ∧ i = .int .i64 (t : Int) ∧ Hid (∃ b9, ByO wr W.heap.size (.slice (some ⟨gf, 0, none⟩) (qn + 1) fc) b9) ∧ Hid (Chg (fun z => z = gf) w7 wr)) (fun i _ => qn + 1 - (intOf i).toNat)
            case atStart => exact ⟨0, by omega, rfl, ⟨_, HF7.out⟩, Chg.refl _ _⟩
            case round =>
              obtain ⟨t, ht, rfl, HB9, HC9⟩ := hrel
              have hti : (t : Int) ≤ (qn : Int) + 1 := by omega
              by_cases htl : t < qn + 1
              · have d5 : decide ((t : Int) < (qn : Int) + 1) = true := decide_eq_true (by omega)
                have d5' : decide (t < qn + 1) = true := decide_eq_true htl
                have hti2 : (t : Int) < (qn : Int) + 1 := by omega
                obtain ⟨b9, hb9⟩ := HB9.out
                obtain ⟨y, ky, fy⟩ := byO_cellD hb9 htl
                have hw8 : IntKind.u8.wrap ((y : Int) + 101) = (((y + 101) % 256 : Nat) : Int) := by simp [IntKind.wrap, IntKind.signed, IntKind.bits]
                have HBN : Hid (∃ b9, ByO (wr.setCell ⟨gf, t, none⟩ (.int .u8 (((y + 101) % 256 : Nat) : Int))) W.heap.size (.slice (some ⟨gf, 0, none⟩) (qn + 1) fc) b9) := ⟨_, byO_setD hb9 htl _⟩
                have HCN : Hid (Chg (fun z => z = gf) w7 (wr.setCell ⟨gf, t, none⟩ (.int .u8 (((y + 101) % 256 : Nat) : Int)))) := HC9.out.setCell (p := ⟨gf, t, none⟩) (.inl rfl) _
                generalize (y + 101) % 256 = y9 at *
                clear hb9 HB9 HC9
                go_wp2
                go_roundw
                case rel => exact ⟨t + 1, by omega, by go_num, HBN, HCN⟩
                case measure => simp [intOf]; omega
              · have htn : t = qn + 1 := by omega
                have d5 : decide ((t : Int) < (qn : Int) + 1) = false := decide_eq_false (by omega)
                have d5' : decide (t < qn + 1) = false := decide_eq_false htl
                have hgb := HFB.out gf rfl
                have hwb := HSZ.out
                have HT8 : Hid (Dxs Fi w0 wr d2 b2 (.pointer (some ⟨a, 0, none⟩)) r2 u' F' (l2 ++ bs) d1 b1 p1 r1 u1 F1 l1 (.slice hbf hs.length hbl) hs (k + 1)) := HT.out.keep S HC9.out (fun z e => by subst e; exact Nat.le_trans (Nat.le_trans HT0.out (Nat.le_of_lt hwb)) hgb.1) (fun z e f => by subst e; rcases HRO.out z f with h | h <;> omega) (fun z e f => by subst e; have := HLT2.out z f; omega) (fun z e f => by subst e; have := HLB.out z f; omega) (fun z e j a ej f => by subst e; have := HLH.out j a ej z f; omega)
                have hx8 : ByO wr w2.heap.size (.slice xa qn xc) (De19.piece b2 D l2 bs) := ownsRow_keep HX7.out HC9.out (fun g e f => by subst f; have := (HXR.out g e).1; omega)
                have hpl : (De19.piece b2 D l2 bs).length = qn := by rw [De19.piece_len, HQB.out]
                have hx9 : wr.ownsRow w0.heap.size 5 1 (.slice xa qn xc) qn (Bk.cells8 (nums (De19.piece b2 D l2 bs))) := by
                  have h9 := owns_base hx8 (B' := w0.heap.size) (Nat.le_trans HT0.out (by omega))
                  rw [hpl] at h9
                  exact h9
                have hs8 : w7.heap.size ≤ wr.heap.size := HC9.out.size
                have HHO : Hid _ := Bk.hold_any w0.heap.size (.slice xa qn xc) (nums (De19.piece b2 D l2 bs)) qn hs.length wr (by omega) hx9 HT8.out.chg.size (by omega)
                clear hx8 hx9 HC9 HB9 HT
                generalize wr = w8 at *
                go_wp2_with fail
                refine Calls.mono HHO.out ?_
                rintro z w9 ⟨h', va, vc, rfl, hv', hok, hn', hrow, c9, hm9⟩
                have HT9 : Hid (Dxs Fi w0 w9 d2 b2 (.pointer (some ⟨a, 0, none⟩)) r2 u' F' (l2 ++ bs) d1 b1 p1 r1 u1 F1 l1 (.slice hbf hs.length hbl) hs (k + 1)) := HT8.out.keep S c9 (fun z e => Nat.le_trans HT0.out (by have := (HXR.out z e).1; omega)) (fun z e f => (HXR.out z e).2.2 f) (fun z e f => by have := (HXR.out z e).1; have := HLT2.out z f; omega) (fun z e f => by have := (HXR.out z e).1; have := HLB.out z f; omega) (fun z e j a ej f => by have := (HXR.out z e).1; have := HLH.out j a ej z f; omega)
                have HHD : Hid (h'.v = .slice va h'.ys.length vc ∧ h'.ok ∧ h'.n = qn ∧ Bk.Row w0.heap.size w9 h' ∧ Moved w8 (.slice xa qn xc) h'.v) := ⟨hv', hok, hn', hrow, hm9⟩
                obtain ⟨yl, hyl⟩ : ∃ yl, h'.ys.length = yl := ⟨_, rfl⟩
                rw [hyl] at HHD ⊢
                have hcl : h'.cells = [.slice va yl vc, .int .i64 h'.n, .int .u8 h'.mark, .string h'.want, .bool h'.kept] := by unfold Bk.Hd.cells; rw [HHD.out.1]
                have hbo := Bk.own_keep HT9.out.bk.book (chg_one w9 (.cells #[.slice va yl vc, .int .i64 h'.n, .int .u8 h'.mark, .string h'.want, .bool h'.kept] 49)) (fun _ _ f => f)
                have hfr9 := Bk.from_held w9 w9.heap.size rfl (.slice va yl vc) (.int .i64 h'.n) (.int .u8 h'.mark) (.string h'.want) (.bool h'.kept)
                have hs9 : w8.heap.size ≤ w9.heap.size := c9.size
                clear hv' hok hn' hrow hm9 c9 HHO HX7
                go_wp2_with (at_builtin; refine wpList_append_moved rfl (.tmp 138) (.tmp 143) 42 rfl w0.heap.size 49 jh (.agg #[.slice none 0 0, .int .i64 0, .int .u8 0, .string ⟨#[]⟩, .bool false]) 5 64 Try.underlying42 hjh hh0 hh1 hh2 rfl (by decide) _ hs.length (Bk.hcells hs) rfl (some ⟨w9.heap.size, 0, none⟩) 1 1 rfl [.slice va yl vc, .int .i64 h'.n, .int .u8 h'.mark, .string h'.want, .bool h'.kept] hbo hfr9 (fun y hy => by simp at hy; rcases hy with rfl | rfl | rfl | rfl | rfl <;> rfl) (by unfold maxLen; omega) (by omega) (Nat.le_trans HT9.out.chg.size (chg_one w9 _).size) ?_)
                intro v5 w10 ho10 hg10 hm10
                rw [← hcl] at ho10
                have HTE : Hid (Dxs Fi w0 w10 d2 b2 (.pointer (some ⟨a, 0, none⟩)) r2 u' F' (l2 ++ bs) d1 b1 p1 r1 u1 F1 l1 v5 (hs ++ [h']) (k + 1)) := HT9.out.push S (by omega) HHD.out.2.2.2.1 (fun i a e g ga gh => by
                  have h1 := HLH.out i a e g ga
                  rcases HHD.out.2.2.2.2 g gh with h2 | h2
                  · have := (HXR.out g h2).1
                    omega
                  · have := HS7.out
                    omega) (fun g gh => by
                  rcases HHD.out.2.2.2.2 g gh with h2 | h2
                  · exact ⟨(HXR.out g h2).2.2, fun f => by have := (HXR.out g h2).1; have := HLT2.out g f; omega⟩
                  · exact ⟨fun f => by have := (HT8.out.q1.rlt f).2; omega, fun f => by have := (HT8.out.q2.rlt f).2; omega⟩) HHD.out.2.1 (by rw [HHD.out.2.2.1]; omega) ho10 hg10 hm10
                have HTE2 : Hid _ := HTE.out.swap
                obtain ⟨bf9, bl9, hv5⟩ : ∃ x y, v5 = .slice x (hs.length + 1) y := by
                  rcases Bk.book_shape ho10 with ⟨_, e2⟩ | ⟨g, cap, e⟩
                  · omega
                  · exact ⟨_, cap, e⟩
                subst hv5
                clear ho10 hg10 hm10 hbo hfr9 hcl HTE HT8 HT9 HHD
                go_wp2
                go_roundw
                case rel => exact ⟨k + 1, by omega, by go_num, _, _, _, _, _, _, _, HTE2⟩
                case measure => simp [intOf]; omega
        · have hpe := HNO.out.2.2.1 hgd
          rw [hpe]
          have HA3 : Hid _ := HA1.out.more.swap
          rw [hpe] at HA3
          clear HA1 HA HBX HSZ HLT HLT2 HLB HLH HT0 hpe
          go_wp2
          go_roundw
          case rel => exact ⟨k + 1, by omega, by go_num, _, _, _, _, _, _, _, HA3⟩
          case measure => simp [intOf]; omega
    · obtain rfl : k = n := by omega
      have d1' : decide ((k : Int) < (k : Int)) = false := decide_eq_false (by omega)
      have HHE : Hid _ := Bk.held_fine w0.heap.size u17 hs wr HST.out.chg.size HST.out.bk.book HST.out.bk.rows HST.out.bk.apart HST.out.bk.ok (by have := HST.out.nh; omega) HST.out.bk.small
      go_wp2_with fail
      refine Calls.mono HHE.out ?_
      rintro z w9 ⟨rfl, c9⟩
      have HCE : Hid (Chg (fun _ => False) w0 w9) := HST.out.chg.trans c9 (fun z f => by
        obtain ⟨h, hm, e⟩ := f
        obtain ⟨i, hi⟩ := List.mem_iff_getElem?.1 hm
        exact .inr ((HST.out.bk.rows i h hi).lt e).1)
      clear HHE c9
      go_wp2
      go_ret
      exact ⟨rfl, HCE.out⟩
end Go.Proofs.Ytefplppgkoanbaa
