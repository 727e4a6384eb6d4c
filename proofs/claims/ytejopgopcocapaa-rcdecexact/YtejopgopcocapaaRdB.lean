/- The contract of the document's Bit; of no statement by itself. -/
import Derived.Test.YtejopgopcocapaaRdA
namespace Go.Proofs.Ytejopgopcocapaa
open Go.RowKit
set_option linter.unusedVariables false

theorem rdwiden_any (B r : Nat) (v : Value) (bs : List Nat) (d : Rc.D) (w : World) (h : Rdc w B r v bs d) (hC : d.C < d.R) (hn : d.n ≤ bs.length) (hl : bs.length ≤ 140737488355328) : Calls Try.prog 44 #[.pointer (some ⟨r, 0, none⟩)] w fun e w' => (∃ d', Rc.widenD bs d = some d' ∧ e = .returned (.bool true) ∧ Rdc w' B r v bs d' ∧ Chg (fun z => z = r) w w') ∨ (Rc.widenD bs d = none ∧ e = .returned (.bool false) ∧ Chg (fun _ => False) w w') := by
  unfold Rc.widenD
  by_cases hR : d.R < 16777216
  · rw [if_pos hR]
    by_cases hlt : d.n < bs.length
    · rw [if_pos hlt]
      exact (rdwiden_yes B r v bs d w h hR hC hlt hl).mono fun e w' ⟨h1, h2, h3⟩ => .inl ⟨_, rfl, h1, h2, h3⟩
    · rw [if_neg hlt]
      exact (rdwiden_dry B r v bs d w h hR (by omega)).mono fun e w' ⟨h1, h2⟩ => .inr ⟨rfl, h1, h2⟩
  · rw [if_neg hR]
    exact (rdwiden_no B r v bs d w h (by omega)).mono fun e w' ⟨h1, h2⟩ => .inl ⟨d, rfl, h1, by rw [← h2]; exact h, by rw [← h2]; exact Chg.refl _ _⟩

/-- Another one's numbers are taken over. -/
theorem Rdc.copy {w : World} {B r L cap : Nat} {ad : Option Addr} {bs : List Nat} {d d' : Rc.D} (h : Rdc w B r (.slice ad L cap) bs d) (n R C : Int) (hn : n = (d'.n : Int)) (hR : R = (d'.R : Int)) (hC : C = (d'.C : Int)) :
    Rdc ((((w.setCell ⟨r, 0, none⟩ (.slice ad L cap)).setCell ⟨r, 1, none⟩ (.int .i64 n)).setCell ⟨r, 2, none⟩ (.int .i64 R)).setCell ⟨r, 3, none⟩ (.int .i64 C)) B r (.slice ad L cap) bs d' ∧ Chg (fun z => z = r) w ((((w.setCell ⟨r, 0, none⟩ (.slice ad L cap)).setCell ⟨r, 1, none⟩ (.int .i64 n)).setCell ⟨r, 2, none⟩ (.int .i64 R)).setCell ⟨r, 3, none⟩ (.int .i64 C)) := by
  have c1 : Chg (fun z => z = r) w ((((w.setCell ⟨r, 0, none⟩ (.slice ad L cap)).setCell ⟨r, 1, none⟩ (.int .i64 n)).setCell ⟨r, 2, none⟩ (.int .i64 R)).setCell ⟨r, 3, none⟩ (.int .i64 C)) := ((((Chg.refl (fun z => z = r) w).setCell (p := ⟨r, 0, none⟩) (.inl rfl) _).setCell (p := ⟨r, 1, none⟩) (.inl rfl) _).setCell (p := ⟨r, 2, none⟩) (.inl rfl) _).setCell (p := ⟨r, 3, none⟩) (.inl rfl) _
  have b1 := blk_setk (l := [.slice ad L cap, .int .i64 (d.n : Int), .int .i64 (d.R : Int), .int .i64 (d.C : Int)]) h.blk 0 (.slice ad L cap)
  have b2 := blk_setk (l := [.slice ad L cap, .int .i64 (d.n : Int), .int .i64 (d.R : Int), .int .i64 (d.C : Int)]) b1 1 (.int .i64 n)
  have b3 := blk_setk (l := [.slice ad L cap, .int .i64 n, .int .i64 (d.R : Int), .int .i64 (d.C : Int)]) b2 2 (.int .i64 R)
  have b4 := blk_setk (l := [.slice ad L cap, .int .i64 n, .int .i64 R, .int .i64 (d.C : Int)]) b3 3 (.int .i64 C)
  refine ⟨⟨h.hr, ?_, ownsRow_keep h.own c1 (fun g e e2 => h.ne (by rw [← e2]; exact e)), h.dig⟩, c1⟩
  rw [← hn, ← hR, ← hC]
  exact b4
structure OkD (bs : List Nat) (d : Rc.D) : Prop where
  lo : 16777216 ≤ d.R
  hi : d.R ≤ 4294967295
  lt : d.C < d.R
  n : d.n ≤ bs.length

theorem rdbit_out (B' s : Nat) (m : Int) (t rv : Value) (xs : List Int) (i : Int) (w : World) (hS : Rt w B' s m t xs) (hi : i < 0 ∨ (xs.length : Int) ≤ i) :
    Calls Try.prog 23 #[rv, .pointer (some ⟨s, 0, none⟩), .int .i64 i] w fun x w' => x = .returned (.tuple #[.int .i64 0, .int .i64 7]) ∧ w = w' := by
  go_enter Try.func23, Try.ntmps23
  go_wp2_with fail
  refine (rat_out B' s m t xs i _ hS hi).mono ?_
  rintro x w1 ⟨rfl, rfl⟩
  go_wp2
  go_ret2
  exact ⟨rfl, rfl⟩

def bt (one : Bool) : Int := if one then 1 else 0

set_option maxHeartbeats 4000000 in
set_option maxRecDepth 100000 in
theorem rdbit_in (B B' r s : Nat) (m : Int) (v t : Value) (xs : List Int) (j : Nat) (bs : List Nat) (d : Rc.D) (w0 : World) (h : Rdc w0 B r v bs d) (hO : OkD bs d) (hS : Rt w0 B' s m t xs) (hI : In31 xs) (hj : j < xs.length) (hl : bs.length ≤ 140737488355328) (hB : B ≤ w0.heap.size) :
    Calls Try.prog 23 #[.pointer (some ⟨r, 0, none⟩), .pointer (some ⟨s, 0, none⟩), .int .i64 j] w0 fun x w' =>
      (∃ d', Rc.cutD bs d (d.R / 2048 * xs[j].toNat) = some d' ∧ x = .returned (.tuple #[.int .i64 (bt (Rc.oneD d (d.R / 2048 * xs[j].toNat))), .int .i64 0]) ∧ Rdc w' B r v bs d' ∧ Rt w' B' s m t (xs.set j (Prob.nx xs[j] (bt (Rc.oneD d (d.R / 2048 * xs[j].toNat))))) ∧ Chg (fun z => z = r ∨ t.ownBlock = some z) w0 w')
      ∨ (Rc.cutD bs d (d.R / 2048 * xs[j].toNat) = none ∧ x = .returned (.tuple #[.int .i64 0, .int .i64 1]) ∧ Chg (fun _ => False) w0 w') := by
  have hp := hI.at j hj
  have hbn := bo_nat (R := d.R) hp.1 hp.2
  have hbb := Rc.bound_in (R := d.R) (p := xs[j].toNat) hO.lo (by omega) (by omega)
  obtain ⟨bb, hbv⟩ : ∃ bb, d.R / 2048 * xs[j].toNat = bb := ⟨_, rfl⟩
  have HBV0 : Hid (d.R / 2048 * xs[j].toNat = bb) := hbv
  rw [hbv] at hbn hbb
  have hhi := hO.hi
  have hlt := hO.lt
  have hlo := hO.lo
  have HBV : Hid (65536 ≤ bb ∧ bb + 65536 ≤ d.R ∧ d.C < d.R) := ⟨hbb.1, hbb.2, hlt⟩
  have HDN : Hid (d.n ≤ bs.length) := hO.n
  have HS : Hid (Rt w0 B' s m t xs) := hS
  have HJ : Hid (j < xs.length) := hj
  have HIN : Hid (In xs) := hI.inn
  obtain ⟨ad, cap, hv, _⟩ := own_any h.own
  obtain ⟨L, hL⟩ : ∃ L, bs.length = L := ⟨_, rfl⟩
  rw [hL] at hv
  have HVV : Hid (v = .slice ad L cap) := hv
  rw [hv] at h
  have HH : Hid (Rdc w0 B r (.slice ad L cap) bs d) := h
  have k2 := (rcells4 h.blk).2.2.1
  obtain ⟨z, hz⟩ : ∃ z : Int, z = (d.R : Int) := ⟨_, rfl⟩
  obtain ⟨zc, hzc⟩ : ∃ z : Int, z = (d.C : Int) := ⟨_, rfl⟩
  have HZ : Hid (z = (d.R : Int)) := hz
  have HZC : Hid (zc = (d.C : Int)) := hzc
  have z1 : 16777216 ≤ z := by omega
  have z2 : z ≤ 4294967295 := by omega
  have zc1 : 0 ≤ zc := by omega
  have zc2 : zc < z := by omega
  have b1 : (65536 : Int) ≤ (bb : Int) := by omega
  have b2 : (bb : Int) ≤ z := by omega
  rw [← hz] at k2 hbn
  have HPI : Hid (I64 xs[j]) := ⟨by omega, by omega⟩
  obtain ⟨p, hp0⟩ : ∃ p : Int, p = xs[j] := ⟨_, rfl⟩
  have hbp : Prob.bo z p = (bb : Int) := by rw [hp0]; exact hbn
  have HAt : Hid (∀ w2, w2 = w0 → Calls Try.prog 45 #[.pointer (some ⟨s, 0, none⟩), .int .i64 j] w2 fun x w' => x = .returned (.tuple #[.int .i64 p, .int .i64 0]) ∧ w2 = w') := fun w2 e2 => by
    subst e2
    rw [hp0]
    exact rat_in B' s m t xs j _ hS hj
  have HBd : Hid (∀ w2, Calls Try.prog 46 #[.int .u32 z, .int .i64 p] w2 fun x w' => x = .returned (.int .u32 (bb : Int)) ∧ w2 = w') := fun w2 => by
    have := rBound_any z p w2 ⟨by omega, by omega⟩ (by rw [hp0]; exact HPI.out)
    rw [hbp] at this
    exact this
  have hwu : IntKind.u32.wrap z = z := by simp [IntKind.wrap, IntKind.signed, IntKind.bits]; omega
  have hwi : IntKind.i64.wrap (bb : Int) = (bb : Int) := wr64 (by omega) (by omega)
  clear h hS hp hbn hbp hbb hz hzc hp0 hv hlo hhi hlt hO hbv hI
  go_enter Try.func23, Try.ntmps23
  go_wp2_with fail
  refine (HAt.out _ rfl).mono ?_
  rintro x w1 ⟨rfl, rfl⟩
  go_wp2_with fail
  refine (HBd.out _).mono ?_
  rintro x w1 ⟨rfl, rfl⟩
  clear HAt HBd k2
  go_wp2_with fail
  refine (rdfork_any B r (.slice ad L cap) bs d _ HH.out hB).mono ?_
  rintro x w2 ⟨f, rfl, hf, hF, c2⟩
  have HF : Hid (Rdc w2 B f (.slice ad L cap) bs d) := hF
  have HC2 : Hid (Chg (fun _ => False) w0 w2) := c2
  have HFN : Hid (w0.heap.size ≤ f) := hf
  obtain ⟨_, _, fk2, fk3, fkf⟩ := rcells4 hF.blk
  have ff2 := fkf 2
  have ff3 := fkf 3
  replace fk2 : w2.cell? ⟨f, 2, none⟩ = some (.int .i64 z) := by have := HZ.out; rw [this]; exact fk2
  replace fk3 : w2.cell? ⟨f, 3, none⟩ = some (.int .i64 zc) := by have := HZC.out; rw [this]; exact fk3
  clear hF c2 hf fkf hwu hwi
  by_cases hcb : zc < (bb : Int)
  · skip
    have HPT : Hid (Rc.partD d bb = ⟨d.n, bb, d.C⟩) := by show Rc.partD d bb = _; unfold Rc.partD; rw [if_neg (by have := HZC.out; omega)]
    have HON : Hid (Rc.oneD d bb = false) := by show decide (bb ≤ d.C) = false; have := HZC.out; simp; omega
    obtain ⟨hp1, cp1⟩ := HF.out.put 2 (bb : Int) ⟨d.n, bb, d.C⟩ rfl
    have HP : Hid (Rdc (w2.setCell ⟨f, 2, none⟩ (.int .i64 (bb : Int))) B f (.slice ad L cap) bs ⟨d.n, bb, d.C⟩) := hp1
    have HCP : Hid (Chg (fun z => z = f) w2 (w2.setCell ⟨f, 2, none⟩ (.int .i64 (bb : Int)))) := cp1
    clear hp1 cp1
    clear HF
    go_wp2_with fail
    refine (rdwiden_any B f (.slice ad L cap) bs ⟨d.n, bb, d.C⟩ _ HP.out (by show d.C < bb; have := HZC.out; omega) HDN.out hl).mono ?_
    rintro x w4 (⟨d', hd', rfl, h4, c4⟩ | ⟨hd', rfl, c4⟩)
    · have HCUT : Hid (Rc.cutD bs d bb = some d') := by show Rc.cutD bs d bb = _; unfold Rc.cutD; rw [HPT.out]; exact hd'
      have C4 : Chg (fun _ => False) w0 w4 := (HC2.out.trans HCP.out (fun z e => .inr (by have := HFN.out; omega))).trans c4 (fun z e => .inr (by have := HFN.out; omega))
      have HR4 := HH.out.new C4
      have HS4 := HS.out.new C4
      obtain ⟨y0, y1, y2, y3, _⟩ := rcells4 h4.blk
      obtain ⟨x0, x1, x2, x3, xf⟩ := rcells4 HR4.blk
      have xf0 := xf 0
      have xf1 := xf 1
      have xf2 := xf 2
      have xf3 := xf 3
      obtain ⟨hc5, cc5⟩ := HR4.copy (d' := d') (d'.n : Int) (d'.R : Int) (d'.C : Int) rfl rfl rfl
      have H5 : Hid (Rdc ((((w4.setCell ⟨r, 0, none⟩ (.slice ad L cap)).setCell ⟨r, 1, none⟩ (.int .i64 (d'.n : Int))).setCell ⟨r, 2, none⟩ (.int .i64 (d'.R : Int))).setCell ⟨r, 3, none⟩ (.int .i64 (d'.C : Int))) B r (.slice ad L cap) bs d') := hc5
      have S5 := HS4.keep cc5 (fun e => by have h1 := HS4.blk; rw [e] at h1; exact ty_ne h1 HR4.blk (by decide)) (fun g e e2 => by obtain ⟨cur, hcur⟩ := owns_blk HS4.own e; rw [e2] at hcur; exact ty_ne hcur HR4.blk (by decide))
      have HS5 : Hid (Rt ((((w4.setCell ⟨r, 0, none⟩ (.slice ad L cap)).setCell ⟨r, 1, none⟩ (.int .i64 (d'.n : Int))).setCell ⟨r, 2, none⟩ (.int .i64 (d'.R : Int))).setCell ⟨r, 3, none⟩ (.int .i64 (d'.C : Int))) B' s m t xs) := S5
      have HC5 : Hid (Chg (fun z => z = r) w0 ((((w4.setCell ⟨r, 0, none⟩ (.slice ad L cap)).setCell ⟨r, 1, none⟩ (.int .i64 (d'.n : Int))).setCell ⟨r, 2, none⟩ (.int .i64 (d'.R : Int))).setCell ⟨r, 3, none⟩ (.int .i64 (d'.C : Int)))) := (C4.mono (fun _ e => e.elim)).trans cc5 (fun _ e => .inl e)
      have hfr : f ≠ r := by have := HFN.out; have := lt_of_blk HH.out.blk; omega
      clear hd' h4 c4 C4 HR4 HS4 hc5 cc5 S5 xf HH HS HCP HP
      go_wp2_with fail
      refine (rturn_in B' s m t xs j 0 _ HS5.out HIN.out HJ.out).mono ?_
      rintro x w6 ⟨rfl, h6, c6⟩
      have H6 := H5.out.keep c6 (fun e => by obtain ⟨cur, hcur⟩ := owns_blk HS5.out.own e; exact ty_ne H5.out.blk hcur (by decide)) (fun g e e2 => by obtain ⟨cur, hcur⟩ := owns_blk H5.out.own e; obtain ⟨cur2, hcur2⟩ := owns_blk HS5.out.own e2; exact ty_ne hcur hcur2 (by decide))
      have HE : Hid (Rdc w6 B r (.slice ad L cap) bs d' ∧ Rt w6 B' s m t (xs.set j (Prob.nx xs[j] 0)) ∧ Chg (fun z => z = r ∨ t.ownBlock = some z) w0 w6) := ⟨H6, h6, (HC5.out.mono (fun _ e => .inl (.inl e))).trans c6 (fun _ e => .inl (.inr e))⟩
      clear h6 c6 H6 H5 HS5 HC5
      go_wp2
      go_ret2
      have hbv := HBV0.out
      rw [hbv]
      exact .inl ⟨d', HCUT.out, by rw [HON.out]; rfl, by rw [HVV.out]; exact HE.out.1, by rw [HON.out]; exact HE.out.2.1, HE.out.2.2⟩
    · have HCUT : Hid (Rc.cutD bs d bb = none) := by show Rc.cutD bs d bb = _; unfold Rc.cutD; rw [HPT.out]; exact hd'
      have HC4 : Hid (Chg (fun _ => False) w0 w4) := (HC2.out.trans HCP.out (fun z e => .inr (by have := HFN.out; omega))).trans c4 (fun _ f => f.elim)
      clear hd' c4 HCP HP
      go_wp2
      go_ret2
      have hbv := HBV0.out
      rw [hbv]
      exact .inr ⟨HCUT.out, rfl, HC4.out⟩
  · skip
    have hcb : decide (zc < (bb : Int)) = false := by simp; omega
    have HPT : Hid (Rc.partD d bb = ⟨d.n, d.R - bb, d.C - bb⟩) := by show Rc.partD d bb = _; unfold Rc.partD; rw [if_pos (by have := HZC.out; omega)]
    have HON : Hid (Rc.oneD d bb = true) := by show decide (bb ≤ d.C) = true; have := HZC.out; simp; omega
    obtain ⟨hp1, cp1⟩ := HF.out.put 3 (zc - (bb : Int)) ⟨d.n, d.R, d.C - bb⟩ (by have := HZC.out; simp only [List.set]; rw [show zc - (bb : Int) = ((d.C - bb : Nat) : Int) by omega])
    have y2 : (w2.setCell ⟨f, 3, none⟩ (.int .i64 (zc - (bb : Int)))).cell? ⟨f, 2, none⟩ = some (.int .i64 z) := by have := HZ.out; rw [this]; exact (rcells4 hp1.blk).2.2.1
    have yf2 := (rcells4 hp1.blk).2.2.2.2 2
    obtain ⟨hp2, cp2⟩ := hp1.put 2 (z - (bb : Int)) ⟨d.n, d.R - bb, d.C - bb⟩ (by have := HZ.out; simp only [List.set]; rw [show z - (bb : Int) = ((d.R - bb : Nat) : Int) by omega])
    have HP : Hid (Rdc ((w2.setCell ⟨f, 3, none⟩ (.int .i64 (zc - (bb : Int)))).setCell ⟨f, 2, none⟩ (.int .i64 (z - (bb : Int)))) B f (.slice ad L cap) bs ⟨d.n, d.R - bb, d.C - bb⟩) := hp2
    have HCP : Hid (Chg (fun z => z = f) w2 ((w2.setCell ⟨f, 3, none⟩ (.int .i64 (zc - (bb : Int)))).setCell ⟨f, 2, none⟩ (.int .i64 (z - (bb : Int))))) := cp1.trans cp2 (fun _ e => .inl e)
    clear hp1 cp1 hp2 cp2
    clear HF
    go_wp2_with fail
    refine (rdwiden_any B f (.slice ad L cap) bs ⟨d.n, d.R - bb, d.C - bb⟩ _ HP.out (by show d.C - bb < d.R - bb; have := HBV.out; have := HZ.out; have := HZC.out; omega) HDN.out hl).mono ?_
    rintro x w4 (⟨d', hd', rfl, h4, c4⟩ | ⟨hd', rfl, c4⟩)
    · have HCUT : Hid (Rc.cutD bs d bb = some d') := by show Rc.cutD bs d bb = _; unfold Rc.cutD; rw [HPT.out]; exact hd'
      have C4 : Chg (fun _ => False) w0 w4 := (HC2.out.trans HCP.out (fun z e => .inr (by have := HFN.out; omega))).trans c4 (fun z e => .inr (by have := HFN.out; omega))
      have HR4 := HH.out.new C4
      have HS4 := HS.out.new C4
      obtain ⟨y0, y1, y2, y3, _⟩ := rcells4 h4.blk
      obtain ⟨x0, x1, x2, x3, xf⟩ := rcells4 HR4.blk
      have xf0 := xf 0
      have xf1 := xf 1
      have xf2 := xf 2
      have xf3 := xf 3
      obtain ⟨hc5, cc5⟩ := HR4.copy (d' := d') (d'.n : Int) (d'.R : Int) (d'.C : Int) rfl rfl rfl
      have H5 : Hid (Rdc ((((w4.setCell ⟨r, 0, none⟩ (.slice ad L cap)).setCell ⟨r, 1, none⟩ (.int .i64 (d'.n : Int))).setCell ⟨r, 2, none⟩ (.int .i64 (d'.R : Int))).setCell ⟨r, 3, none⟩ (.int .i64 (d'.C : Int))) B r (.slice ad L cap) bs d') := hc5
      have S5 := HS4.keep cc5 (fun e => by have h1 := HS4.blk; rw [e] at h1; exact ty_ne h1 HR4.blk (by decide)) (fun g e e2 => by obtain ⟨cur, hcur⟩ := owns_blk HS4.own e; rw [e2] at hcur; exact ty_ne hcur HR4.blk (by decide))
      have HS5 : Hid (Rt ((((w4.setCell ⟨r, 0, none⟩ (.slice ad L cap)).setCell ⟨r, 1, none⟩ (.int .i64 (d'.n : Int))).setCell ⟨r, 2, none⟩ (.int .i64 (d'.R : Int))).setCell ⟨r, 3, none⟩ (.int .i64 (d'.C : Int))) B' s m t xs) := S5
      have HC5 : Hid (Chg (fun z => z = r) w0 ((((w4.setCell ⟨r, 0, none⟩ (.slice ad L cap)).setCell ⟨r, 1, none⟩ (.int .i64 (d'.n : Int))).setCell ⟨r, 2, none⟩ (.int .i64 (d'.R : Int))).setCell ⟨r, 3, none⟩ (.int .i64 (d'.C : Int)))) := (C4.mono (fun _ e => e.elim)).trans cc5 (fun _ e => .inl e)
      have hfr : f ≠ r := by have := HFN.out; have := lt_of_blk HH.out.blk; omega
      clear hd' h4 c4 C4 HR4 HS4 hc5 cc5 S5 xf HH HS HCP HP
      go_wp2_with fail
      refine (rturn_in B' s m t xs j 1 _ HS5.out HIN.out HJ.out).mono ?_
      rintro x w6 ⟨rfl, h6, c6⟩
      have H6 := H5.out.keep c6 (fun e => by obtain ⟨cur, hcur⟩ := owns_blk HS5.out.own e; exact ty_ne H5.out.blk hcur (by decide)) (fun g e e2 => by obtain ⟨cur, hcur⟩ := owns_blk H5.out.own e; obtain ⟨cur2, hcur2⟩ := owns_blk HS5.out.own e2; exact ty_ne hcur hcur2 (by decide))
      have HE : Hid (Rdc w6 B r (.slice ad L cap) bs d' ∧ Rt w6 B' s m t (xs.set j (Prob.nx xs[j] 1)) ∧ Chg (fun z => z = r ∨ t.ownBlock = some z) w0 w6) := ⟨H6, h6, (HC5.out.mono (fun _ e => .inl (.inl e))).trans c6 (fun _ e => .inl (.inr e))⟩
      clear h6 c6 H6 H5 HS5 HC5
      go_wp2
      go_ret2
      have hbv := HBV0.out
      rw [hbv]
      exact .inl ⟨d', HCUT.out, by rw [HON.out]; rfl, by rw [HVV.out]; exact HE.out.1, by rw [HON.out]; exact HE.out.2.1, HE.out.2.2⟩
    · have HCUT : Hid (Rc.cutD bs d bb = none) := by show Rc.cutD bs d bb = _; unfold Rc.cutD; rw [HPT.out]; exact hd'
      have HC4 : Hid (Chg (fun _ => False) w0 w4) := (HC2.out.trans HCP.out (fun z e => .inr (by have := HFN.out; omega))).trans c4 (fun _ f => f.elim)
      clear hd' c4 HCP HP
      go_wp2
      go_ret2
      have hbv := HBV0.out
      rw [hbv]
      exact .inr ⟨HCUT.out, rfl, HC4.out⟩

end Go.Proofs.Ytejopgopcocapaa
