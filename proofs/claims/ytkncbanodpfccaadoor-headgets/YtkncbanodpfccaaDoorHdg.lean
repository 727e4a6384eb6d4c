/- The walk of HeadBack; of no statement by itself. -/
import Derived.Test.YtkncbanodpfccaaDoorHdf
import Derived.Deep.DeepCutAuto
namespace Go.Proofs.YtkncbanodpfccaaDoor
open Go.RowKit
open St12
set_option linter.unusedVariables false
set_option linter.unusedSimpArgs false
variable {Tab : World → Prop}
theorem blk_set3h {w : World} {a : Nat} {x0 x1 x2 x3 u : Value} {t : TypeId} (h : w.heap[a]? = some (.cells #[x0, x1, x2, x3] t (0, 0))) : (w.setCell ⟨a, 3, none⟩ u).heap[a]? = some (.cells #[x0, x1, x2, u] t (0, 0)) := by
  have h2 : w.heap[a]? = some (.cells [x0, x1, x2, x3].toArray t (0, 0)) := h
  exact blk_setk h2 3 u
theorem free3h {w : World} {a : Nat} {x0 x1 x2 x3 : Value} {t : TypeId} (h : w.heap[a]? = some (.cells #[x0, x1, x2, x3] t (0, 0))) : w.frozen? ⟨a, 3, none⟩ = false := by simp [World.frozen?, h]
theorem Of0.keepB {S : Nat → Prop} {B : Nat} {w w' : World} {lv : Value} {q : List FlV} (h : Of0 B w lv q) (hc : Chg S w w') (hS : ∀ g, S g → g < B) : Of0 B w' lv q := ⟨owns_keepF h.own hc (fun g e f => by
  have h1 := (World.ownsRow.lt h.own g e).1
  have h2 := hS g f
  omega), fun k x e => ⟨owns_keepF (h.pcs k x e).1 hc (fun g e2 f => by
  have h1 := (World.ownsRow.lt (h.pcs k x e).1 g e2).1
  have h2 := hS g f
  omega), (h.pcs k x e).2⟩⟩
theorem byO_keepB {S : Nat → Prop} {B : Nat} {w w' : World} {v : Value} {bs : List Nat} (h : ByO w B v bs) (hc : Chg S w w') (hS : ∀ g, S g → g < B) : ByO w' B v bs := owns_keepF h hc (fun g e f => by
  have h1 := (World.ownsRow.lt h g e).1
  have h2 := hS g f
  omega)
set_option maxHeartbeats 16000000 in
set_option maxRecDepth 100000 in
theorem back21_any (S : HeadSpec Tab) (C : ChainSpec Tab) (pk sz by_ pad : Int) (fa : Option Addr) (fn fc : Nat) (l : List FlV) (ba : Option Addr) (n bc : Nat) (bs : List Nat) (w0 : World) (hT : Tab w0) (i1 : I64 pk) (i2 : I64 sz) (i3 : I64 by_) (i4 : I64 pad) (hf : FlL w0 fa l) (hfl : l.length = fn) (hfc : fn ≤ fc) (hfn : fn ≤ 1048576) (hxn : ∀ (k : Nat) (x : FlV), l[k]? = some x → x.n ≤ 1048576) (hb : Row8 w0 ba n bc (nums bs)) (hd : Rc.Dig bs) (hn : n ≤ 1048576) : Calls Tryd.prog 3 #[hdv pk sz (.slice fa fn fc) by_, .int .i64 pad, .slice ba n bc] w0 fun e w' => e = .returned (.bool true) ∧ Chg (fun _ => False) w0 w' := by
  have HT : Hid (Tab w0) := hT
  have HB : Hid (Row8 w0 ba n bc (nums bs)) := hb
  have HD : Hid (Rc.Dig bs) := hd
  have HBL : Hid (bs.length = n) := by have h9 := hb.1; rw [nums_len] at h9; exact h9
  have HFL : Hid (l.length = fn) := hfl
  have hni : (n : Int) ≤ 1048576 := by omega
  have hfi : (fn : Int) ≤ 1048576 := by omega
  have HK : Hid (∀ ww, Chg (fun _ => False) w0 ww → Calls Tryd.prog 9 #[] ww fun e w' => e = .returned (.bool true) ∧ Chg (fun _ => False) ww w') := fun ww hc => fixed21_any S ww (S.keep HT.out hc)
  have cA := chg_one w0 (.cells #[.int .i64 pk, .int .i64 sz, .slice fa fn fc, .int .i64 by_] 24)
  have bA := heap_alloc_last w0 (.cells #[.int .i64 pk, .int .i64 sz, .slice fa fn fc, .int .i64 by_] 24)
  obtain ⟨x0, x1, x2, x3⟩ := cells4h bA
  have HCA : Hid (Chg (fun _ => False) w0 (w0.alloc (.cells #[.int .i64 pk, .int .i64 sz, .slice fa fn fc, .int .i64 by_] 24))) := cA
  have HBA : Hid ((w0.alloc (.cells #[.int .i64 pk, .int .i64 sz, .slice fa fn fc, .int .i64 by_] 24)).heap[w0.heap.size]? = some (.cells #[.int .i64 pk, .int .i64 sz, .slice fa fn fc, .int .i64 by_] 24 (0, 0))) := bA
  have HP : Hid _ := S.put pk sz by_ pad fa fn fc l _ (S.keep hT cA) i1 i2 i3 i4 (hf.new cA) hfl hfc hfn hxn
  have HF : Hid (FlL w0 fa l) := hf
  have hpe := Hd21.putH_e ⟨pk, sz, l.map FlV.f, by_⟩ pad
  have HHD : Hid (∀ f ∈ l.map FlV.f, Rc.Dig f.ps ∧ f.ps.length ≤ 9223372036854775807) := fun f hff => by
    obtain ⟨x, hx, rfl⟩ := List.mem_map.1 hff
    obtain ⟨k, hk⟩ := List.getElem?_of_mem hx
    have h1 := (hf k x hk).1
    have h2 := h1.len
    have h3 := hxn k x hk
    exact ⟨h1.dig, by show x.bs.length ≤ _; omega⟩
  have HI : Hid (I64 pk ∧ I64 sz) := ⟨i1, i2⟩
  unfold hdv at HP ⊢
  obtain ⟨P, er, hPe⟩ : ∃ P e, Hd21.putH ⟨pk, sz, l.map FlV.f, by_⟩ pad = (P, e) := ⟨_, _, rfl⟩
  rw [hPe] at HP hpe
  simp only at HP hpe
  have HPE : Hid (Hd21.putH ⟨pk, sz, l.map FlV.f, by_⟩ pad = (P, er)) := hPe
  have HER : Hid (er = Hd21.putE ⟨pk, sz, l.map FlV.f, by_⟩ pad ∧ (er ≠ 0 → P = [])) := ⟨hpe.1, fun h => hpe.2 (by rw [← hpe.1]; exact h)⟩
  obtain ⟨L, hL⟩ : ∃ L, P.length = L := ⟨_, rfl⟩
  have HL : Hid (P.length = L) := hL
  clear hT i1 i2 i3 i4 hf hfl hxn hb hd cA bA hpe hPe hL
  go_enter Tryd.func3, Tryd.ntmps3
  go_wp2_with fail
  refine Calls.mono HP.out ?_
  rintro z w1 ⟨ov, rfl, ho, c1⟩
  obtain ⟨oa, oc, rfl⟩ := byO_form ho
  rw [HL.out] at ho ⊢
  have HC1 : Hid (Chg (fun _ => False) w0 w1) := chg_then HCA.out c1
  have HO1 : Hid (ByO w1 (w0.heap.size + 1) (.slice oa L oc) P) := by
    rw [World.size_alloc] at ho
    exact ho
  have HB1 : Hid (w1.heap[w0.heap.size]? = some (.cells #[.int .i64 pk, .int .i64 sz, .slice fa fn fc, .int .i64 by_] 24 (0, 0))) := blk_keep HBA.out c1 (fun f => f)
  clear ho c1 HP HCA HBA x0 x1 x2 x3
  go_wp2_with fail
  refine Calls.mono (HK.out w1 HC1.out) ?_
  rintro z w2 ⟨rfl, c2⟩
  have HC2 : Hid (Chg (fun _ => False) w0 w2) := chg_then HC1.out c2
  have HO2 : Hid (ByO w2 (w0.heap.size + 1) (.slice oa L oc) P) := HO1.out.new c2
  have HB2 : Hid (w2.heap[w0.heap.size]? = some (.cells #[.int .i64 pk, .int .i64 sz, .slice fa fn fc, .int .i64 by_] 24 (0, 0))) := blk_keep HB1.out c2 (fun f => f)
  clear c2 HC1 HO1 HB1
  by_cases her : er = 0
  · subst her
    have HE0 : Hid (Hd21.putE ⟨pk, sz, l.map FlV.f, by_⟩ pad = 0) := HER.out.1.symm
    have hbi := Hd21.body_is HE0.out
    have hlen := Hd21.putH_len HE0.out
    obtain ⟨hs1, hs2, _⟩ := Hd21.size_body HE0.out []
    rw [List.append_nil, HPE.out] at hs1 hs2
    rw [HPE.out] at hlen
    simp only at hs1 hs2 hlen
    unfold Hd21.size at hs1
    rw [HL.out] at hlen hs1
    obtain ⟨B0, hB0⟩ : ∃ B0, P.getD 0 0 = B0 := ⟨_, rfl⟩
    rw [hB0] at hs1
    have hL8 : 8 ≤ L ∧ L % 4 = 0 ∧ L ≤ 1024 := by omega
    have hL8i : (8 : Int) ≤ (L : Int) := by omega
    have hLi : (L : Int) ≤ 1024 := by omega
    have hL4 : (L : Int) % 4 = 0 := by omega
    have e1 : decide ((L : Int) < 8) = false := decide_eq_false (by omega)
    have e1' : decide (L < 8) = false := decide_eq_false (by omega)
    have hB4 : 4 * (B0 : Int) + 4 = (L : Int) := by omega
    have hBi : (B0 : Int) ≤ 255 := by omega
    obtain ⟨ob, off, hoa, hcell⟩ := row8_at (byO_row HO2.out).1 (by omega)
    have c0 := hcell 0 (by omega)
    rw [hB0, Nat.add_zero] at c0
    subst hoa
    have HLL : Hid (8 ≤ L ∧ L ≤ 1024) := ⟨hL8.1, hL8.2.2⟩
    have HJ : Hid _ := joined21_any (some ⟨ob, off, none⟩) ba L n oc bc P bs w2 (byO_row HO2.out).1 (Bk.row8_chg HB.out HC2.out) (by omega)
    have hget := Hd21.get_putH HE0.out (by have := HI.out.2; unfold I64 at this; simp only; omega) (by have := HI.out.1; unfold I64 at this; simp only; omega) (fun f hff => (HHD.out f hff).2) bs
    rw [HPE.out] at hget
    simp only at hget
    rw [HL.out] at hget
    have HGT : Hid _ := hget
    have HPD : Hid (Rc.Dig P) := by
      have := Hd21.putH_dig (h := ⟨pk, sz, l.map FlV.f, by_⟩) (pad := pad) (fun f hff => (HHD.out f hff).1)
      rw [HPE.out] at this
      exact this
    have HCU : Hid (∀ i, i < L → Hd21.getH (P.take i) = (Hd21.zeroH, 1)) := fun i hi => by
      have := Hd21.get_cutH HE0.out (i := i) (by rw [HPE.out]; show i < P.length; rw [HL.out]; exact hi)
      rw [HPE.out] at this
      exact this
    clear hbi hlen hs1 hs2 hB0 hL8 hcell hget HER
    go_upto_region 8 with fail
    clear e1 e1' c0 hB4 hL4
    go_wp2_with fail
    refine Calls.mono HJ.out ?_
    rintro z w3 ⟨ja, jc, rfl, hj, c3⟩
    obtain ⟨hrow, _, hcap⟩ := byO_row hj
    have HC3 : Hid (Chg (fun _ => False) w2 w3) := c3
    have HG : Hid _ := S.get ja (L + n) jc (P ++ bs) w3 (S.keep HT.out (chg_then HC2.out c3)) hrow (dig_app HPD.out HD.out) hcap (by omega)
    obtain ⟨rr, hrr⟩ : ∃ r, (Cn20.readF (l.map FlV.f)).2.2 = r := ⟨_, rfl⟩
    have HRR : Hid ((Cn20.readF (l.map FlV.f)).2.2 = rr) := hrr
    rw [hrr] at HGT
    have hg2 : (Hd21.getH (P ++ bs)).2 = rr := by
      rw [HGT.out]
      split
      · rfl
      · rename_i h; simp only; exact (Decidable.not_not.1 h).symm
    unfold hdv at HG
    rw [hg2] at HG
    clear hj c3 hrow hcap hrr hg2 HJ
    obtain ⟨⟨gpk, gsz, gfs, gby⟩, ge, hGe⟩ : ∃ h e, Hd21.getH (P ++ bs) = (h, e) := ⟨_, _, rfl⟩
    rw [hGe] at HG HGT
    simp only at HG
    have HGE : Hid (rr = 0 → gpk = pk ∧ gsz = sz ∧ gfs = l.map FlV.f ∧ gby = (L : Int)) := fun h0 => by
      have h9 := HGT.out
      rw [if_neg (by simpa using h0)] at h9
      simp only [Prod.mk.injEq, Hed.mk.injEq] at h9
      exact ⟨h9.1.1, h9.1.2.1, h9.1.2.2.1, h9.1.2.2.2⟩
    clear hGe HGT
    go_wp2_with fail
    refine Calls.mono HG.out ?_
    rintro z w4 ⟨ga, gn, gc, gl, rfl, hof, _, hln, _, hmf, c4⟩
    have cC := chg_one w4 (.cells #[.int .i64 gpk, .int .i64 gsz, .slice ga gn gc, .int .i64 gby] 24)
    have bC := heap_alloc_last w4 (.cells #[.int .i64 gpk, .int .i64 gsz, .slice ga gn gc, .int .i64 gby] 24)
    have hc24 := chg_then HC3.out (chg_then c4 cC)
    have HC5 : Hid (Chg (fun _ => False) w2 (w4.alloc (.cells #[.int .i64 gpk, .int .i64 gsz, .slice ga gn gc, .int .i64 gby] 24))) := hc24
    have HF5 : Hid (Of0 w3.heap.size (w4.alloc (.cells #[.int .i64 gpk, .int .i64 gsz, .slice ga gn gc, .int .i64 gby] 24)) (.slice ga gn gc) gl ∧ gl.length = gn ∧ gl.map FlV.f = gfs) := ⟨hof.new cC, hln, hmf⟩
    have HB5 : Hid ((w4.alloc (.cells #[.int .i64 gpk, .int .i64 gsz, .slice ga gn gc, .int .i64 gby] 24)).heap[w4.heap.size]? = some (.cells #[.int .i64 gpk, .int .i64 gsz, .slice ga gn gc, .int .i64 gby] 24 (0, 0))) := bC
    have HA5 : Hid ((w4.alloc (.cells #[.int .i64 gpk, .int .i64 gsz, .slice ga gn gc, .int .i64 gby] 24)).heap[w0.heap.size]? = some (.cells #[.int .i64 pk, .int .i64 sz, .slice fa fn fc, .int .i64 by_] 24 (0, 0))) := blk_keep HB2.out hc24 (fun f => f)
    have HNL : Hid (w0.heap.size < w3.heap.size) := Nat.lt_of_lt_of_le (lt_of_blk HB2.out) HC3.out.size
    have HNE : Hid (w0.heap.size < w4.heap.size) := Nat.lt_of_lt_of_le (lt_of_blk HB2.out) (Nat.le_trans HC3.out.size c4.size)
    clear hof c4 cC bC hc24 hln hmf HG HC3 HB2
    go_upto_region 9 with fail
    generalize w4.alloc (.cells #[.int .i64 gpk, .int .i64 gsz, .slice ga gn gc, .int .i64 gby] 24) = W5 at *
    generalize w4.heap.size = xb at *
    have hfl5 := HF.out.new (chg_then HC2.out HC5.out)
    obtain ⟨x0, x1, x2, x3⟩ := cells4h HA5.out
    have HRD : Hid _ := C.read fa fn fc l W5 (C.keep HT.out (chg_then HC2.out HC5.out)) hfl5 HFL.out hfc (by omega)
    obtain ⟨rd, rt, re, hrf⟩ : ∃ a b e, Cn20.readF (l.map FlV.f) = (a, b, e) := ⟨_, _, _, rfl⟩
    rw [hrf] at HRD HRR
    simp only at HRD HRR
    have hre := HRR.out
    subst hre
    clear hrf hfl5
    go_wp2_with fail
    refine Calls.mono HRD.out ?_
    rintro z w6 ⟨rfl, c6⟩
    have y1 : (re != re) = false := by simp
    have HC6 : Hid (Chg (fun _ => False) w2 w6) := chg_then HC5.out c6
    have HB6 : Hid (w6.heap[xb]? = some (.cells #[.int .i64 gpk, .int .i64 gsz, .slice ga gn gc, .int .i64 gby] 24 (0, 0))) := blk_keep HB5.out c6 (fun f => f)
    have HA6 : Hid (w6.heap[w0.heap.size]? = some (.cells #[.int .i64 pk, .int .i64 sz, .slice fa fn fc, .int .i64 by_] 24 (0, 0))) := blk_keep HA5.out c6 (fun f => f)
    have HF6 : Hid (Of0 w3.heap.size w6 (.slice ga gn gc) gl ∧ gl.length = gn ∧ gl.map FlV.f = gfs) := ⟨HF5.out.1.new c6, HF5.out.2⟩
    have z3 := free3h HA6.out
    obtain ⟨p0, p1, p2, p3⟩ := cells4h HA6.out
    clear c6 x0 x1 x2 x3 HRD HC5 HB5 HA5 HF5
    go_upto_region 13 with fail
    clear y1 p0 p1 p2 p3 z3
    have hS : Chg (fun g => g = w0.heap.size) w6 (w6.setCell ⟨w0.heap.size, 3, none⟩ (.int .i64 (L : Int))) := Chg.setCell (S := fun g => g = w0.heap.size) (Chg.refl _ w6) (p := ⟨w0.heap.size, 3, none⟩) (.inl rfl) _
    have HA7 : Hid ((w6.setCell ⟨w0.heap.size, 3, none⟩ (.int .i64 (L : Int))).heap[w0.heap.size]? = some (.cells #[.int .i64 pk, .int .i64 sz, .slice fa fn fc, .int .i64 (L : Int)] 24 (0, 0))) := blk_set3h HA6.out
    have HB7 : Hid ((w6.setCell ⟨w0.heap.size, 3, none⟩ (.int .i64 (L : Int))).heap[xb]? = some (.cells #[.int .i64 gpk, .int .i64 gsz, .slice ga gn gc, .int .i64 gby] 24 (0, 0))) := blk_keep HB6.out hS (fun e => by have := HNE.out; omega)
    have HF7 : Hid (FlL (w6.setCell ⟨w0.heap.size, 3, none⟩ (.int .i64 (L : Int))) ga gl) := (HF6.out.1.keepB hS (fun g e => by have := HNL.out; omega)).L
    have hc7 : Chg (fun _ => False) w0 (w6.setCell ⟨w0.heap.size, 3, none⟩ (.int .i64 (L : Int))) := Chg.setCell (chg_then HC2.out HC6.out) (p := ⟨w0.heap.size, 3, none⟩) (.inr (Nat.le_refl _)) _
    have HC7 : Hid (Chg (fun _ => False) w0 (w6.setCell ⟨w0.heap.size, 3, none⟩ (.int .i64 (L : Int)))) := hc7
    have HL7 : Hid (FlL (w6.setCell ⟨w0.heap.size, 3, none⟩ (.int .i64 (L : Int))) fa l) := HF.out.new hc7
    have HO7 : Hid (Row8 (w6.setCell ⟨w0.heap.size, 3, none⟩ (.int .i64 (L : Int))) (some ⟨ob, off, none⟩) L oc (nums P)) := (byO_row (byO_keepB (HO2.out.new HC6.out) hS (fun g e => by omega))).1
    have HOC : Hid (L ≤ oc) := (byO_row HO2.out).2.2
    clear hS hc7
    generalize w6.setCell ⟨w0.heap.size, 3, none⟩ (.int .i64 (L : Int)) = W7 at *
    go_cut [77] (fun bv wx => bv = .bool false ∧ Hid (Chg (fun _ => False) W7 wx))
    case first =>
      by_cases hre : re = 0
      · have z1 : (re == 0) = true := by simpa using hre
        obtain ⟨q1, q2, q3, q4⟩ := HGE.out hre
        have hgn : gn = fn := by
          have h1 := congrArg List.length (HF6.out.2.2.trans q3)
          rw [List.length_map, List.length_map, HF6.out.2.1, HFL.out] at h1
          exact h1
        have hb7 := HB7.out
        rw [q1, q2, q4, hgn] at hb7
        have HSM : Hid _ := same21_any W7 pk sz (L : Int) ga fa fn gc fc gl l HF7.out HL7.out HFL.out (HF6.out.2.2.trans q3) (by omega)
        unfold hdv at HSM
        obtain ⟨x0, x1, x2, x3⟩ := cells4h HA7.out
        obtain ⟨y0, y1, y2, y3⟩ := cells4h hb7
        clear q1 q2 q3 q4 hgn hb7 hre
        go_wp2_with fail
        refine Calls.mono HSM.out ?_
        rintro z w8 ⟨rfl, c8⟩
        have HC8 : Hid (Chg (fun _ => False) W7 w8) := c8
        clear c8
        go_wp2_with fail
        go_meet
        exact ⟨rfl, HC8.out⟩
      · have z1 : (re == 0) = false := by simpa using hre
        clear hre
        go_wp2_with fail
        go_meet
        exact ⟨rfl, Chg.refl _ _⟩
    case rest =>
    obtain ⟨rfl, hcw⟩ := hcut
    have HCW : Hid (Chg (fun _ => False) W7 wc) := hcw
    clear hcw HF7 HL7 HA7 HB7 HGE HF6 HA6 HB6 HC6 HF HI HHD
    go_wp2_with fail
    go_loopw [14] (fun i wr => ∃ k : Nat, k ≤ L ∧ i = .int .i64 (k : Int) ∧ Hid (Chg (fun _ => False) W7 wr)) (fun i _ => L - (intOf i).toNat)
    case atStart => exact ⟨0, by omega, rfl, HCW.out⟩
    case round =>
      obtain ⟨k, hk, rfl, HC⟩ := hrel
      have hki : (k : Int) ≤ (L : Int) := by omega
      by_cases hlt : k < L
      · have d1 : decide ((k : Int) < (L : Int)) = true := decide_eq_true (by omega)
        have d1' : decide (k < L) = true := decide_eq_true hlt
        have hrt := row8_take (Bk.row8_chg HO7.out HC.out) (i := k) (by omega)
        have HJ2 : Hid _ := joined21_any (some ⟨ob, off, none⟩) none k 0 oc 0 (P.take k) [] wr hrt ⟨rfl, .inl ⟨rfl, rfl, rfl⟩⟩ (by omega)
        rw [List.append_nil, Nat.add_zero] at HJ2
        have hcut2 : ∀ ww, (Instr.sliceAt 25 (.slice (some ⟨ob, off, none⟩) L oc) none (some (.int .i64 (k : Int))) none).run Tryd.prog ww = .ok (.slice (some ⟨ob, off, none⟩) k oc) ww := fun ww => run_cutZ_hi undBy elemBy sizeBy _ L oc k ww (by have := HOC.out; omega)
        have HKL : Hid (k < L) := hlt
        clear hrt
        go_wp2_with fail
        refine Calls.mono HJ2.out ?_
        rintro z w9 ⟨ja, jc, rfl, hj, c9⟩
        obtain ⟨hrow, _, hcap⟩ := byO_row hj
        have HC9 : Hid (Chg (fun _ => False) W7 w9) := chg_then HC.out c9
        have HG2 : Hid _ := S.get ja k jc (P.take k) w9 (S.keep HT.out (chg_then HC7.out HC9.out)) hrow (fun x hx => HPD.out x (List.mem_of_mem_take hx)) hcap (by omega)
        rw [HCU.out k HKL.out] at HG2
        unfold hdv Hd21.zeroH at HG2
        simp only at HG2
        clear hj c9 hrow hcap HJ2
        go_wp2_with fail
        refine Calls.mono HG2.out ?_
        rintro z w10 ⟨ga2, gn2, gc2, gl2, rfl, _, _, _, _, _, c10⟩
        have HC11 : Hid (Chg (fun _ => False) W7 (w10.alloc (.cells #[.int .i64 0, .int .i64 0, .slice ga2 gn2 gc2, .int .i64 0] 24))) := chg_then HC9.out (chg_then c10 (chg_one w10 _))
        clear c10 HG2 HC9
        go_wp2
        go_roundw
        case rel => exact ⟨k + 1, by omega, by go_num, HC11⟩
        case measure => simp [intOf]; omega
      · obtain rfl : k = L := by omega
        have d1 : decide ((k : Int) < (k : Int)) = false := decide_eq_false (by omega)
        go_wp2
        go_ret
        exact ⟨rfl, chg_then HC7.out HC.out⟩
  · have hP := HER.out.2 her
    have h0 : L = 0 := by rw [← HL.out, hP]; rfl
    subst h0
    have z1 : (er != 0) = true := by simpa using her
    clear her
    go_wp2
    go_ret
    exact ⟨rfl, HC2.out⟩
end Go.Proofs.YtkncbanodpfccaaDoor
