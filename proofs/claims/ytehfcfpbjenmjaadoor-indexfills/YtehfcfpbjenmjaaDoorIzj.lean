/- The landed index's fields: the zeros and the sum; of no statement by itself. -/
import Derived.Test.YtehfcfpbjenmjaaDoorIzi
namespace Go.Proofs.YtehfcfpbjenmjaaDoor
open Go.RowKit
set_option linter.unusedVariables false
set_option linter.unusedSimpArgs false
theorem low4_iffX {m : Nat} {ys : List Nat} (hl : ys.length = 4) (hd : Rc.Dig ys) (hm : m < 4294967296) : (Wire.lowNum (nums ys) = (m : Int)) ↔ ys = Cq.Crc.low m 4 := by
  match ys, hl with
  | [y0, y1, y2, y3], _ =>
    have h0 := hd y0 (by simp)
    have h1 := hd y1 (by simp)
    have h2 := hd y2 (by simp)
    have h3 := hd y3 (by simp)
    have e : Wire.lowNum (nums [y0, y1, y2, y3]) = (y0 : Int) + 256 * ((y1 : Int) + 256 * ((y2 : Int) + 256 * ((y3 : Int) + 256 * 0))) := rfl
    have e2 : Cq.Crc.low m 4 = [m % 256, m / 256 % 256, m / 256 / 256 % 256, m / 256 / 256 / 256 % 256] := rfl
    rw [e, e2]
    simp only [List.cons.injEq, and_true]
    constructor
    · intro h
      refine ⟨?_, ?_, ?_, ?_⟩ <;> omega
    · rintro ⟨a, b, c, d⟩
      omega
theorem lowNum4_bdX {ys : List Nat} (hl : ys.length = 4) (hd : Rc.Dig ys) : 0 ≤ Wire.lowNum (nums ys) ∧ Wire.lowNum (nums ys) < 4294967296 := by
  have h := Wire.lowNum_bd (nums ys) (fun x hx => by
    obtain ⟨y, hy, rfl⟩ := List.mem_map.1 hx
    have := hd y hy
    omega)
  rw [nums_len, hl] at h
  exact ⟨h.1, by have := h.2; omega⟩
/-- What the zeros' fault is. -/
def zerE (bs : List Nat) (a : Nat) : Int := if bs.length < a + Ix23.zpad a then 1 else if ∃ x ∈ (bs.drop a).take (Ix23.zpad a), x ≠ 0 then 2 else 0
/-- What the sum's fault is. -/
def sumE (bs : List Nat) (S : Nat) : Int := if bs.length < S + 4 then 1 else if (bs.drop S).take 4 ≠ crc4 (bs.take S) then 3 else 0
set_option maxHeartbeats 8000000 in
set_option maxRecDepth 100000 in
theorem zeros23_any (W0 : World) (f : Nat) (ad : Option Addr) (n c a : Nat) (bs : List Nat) (w0 : World) (hB : Row8 W0 ad n c (nums bs)) (hd : Rc.Dig bs) (hc : n ≤ c) (hn : n ≤ 140737488355328) (h : Fd W0 f ad n c a w0) : Calls Tryd.prog 29 #[.pointer (some ⟨f, 0, none⟩)] w0 fun e w' => ((zerE bs a ≠ 0 ∧ e = .panicked (gaveX (zerE bs a))) ∨ (zerE bs a = 0 ∧ e = .returned (.tuple #[]) ∧ Fd W0 f ad n c (a + Ix23.zpad a) w')) ∧ Chg (fun z => z = f) w0 w' := by
  have hbl : bs.length = n := by have h9 := hB.1; rw [nums_len] at h9; exact h9
  have hpad : (4 - (a : Int) % 4) % 4 = (Ix23.zpad a : Int) := by unfold Ix23.zpad; omega
  have hz4 := (Ix23.zpad_is a).1
  have HZE : Hid (zerE bs a = if n < a + Ix23.zpad a then 1 else if ∃ x ∈ (bs.drop a).take (Ix23.zpad a), x ≠ 0 then 2 else 0) := by show _ = _; unfold zerE; rw [hbl]
  have hai : (a : Int) ≤ 140737488355328 := by have := h.ha; omega
  have HPD : Hid (∀ w : World, Calls Tryd.prog 37 #[.int .i64 (a : Int)] w fun e w' => e = .returned (.int .i64 (Ix23.zpad a : Int)) ∧ w = w') := fun w => by
    have h9 := Wire.pad_pos (a : Int) w (by omega) (by omega)
    rw [hpad] at h9
    exact h9
  obtain ⟨zp, hz⟩ : ∃ x, Ix23.zpad a = x := ⟨_, rfl⟩
  rw [hz] at hz4 HZE HPD ⊢
  obtain ⟨x0, x1, _⟩ := h.fld.x
  have HF : Hid (Fd W0 f ad n c a w0) := h
  have hzi : (zp : Int) ≤ 3 := by omega
  have HBL : Hid (bs.length = n) := hbl
  clear hpad hz
  by_cases hlt : n < a + zp
  · have hE : zerE bs a = 1 := by rw [HZE.out, if_pos hlt]
    have HN : Hid _ := next_no f ad n c a zp w0 h.fld h.ha hlt (by omega) hn
    rw [hE]
    clear hB hd hc hn h hE hlt hbl HZE
    go_enter Tryd.func29, Tryd.ntmps29
    go_wp2_with fail
    refine Calls.mono (HPD.out _) ?_
    rintro z w2 ⟨rfl, rfl⟩
    go_wp2_with fail
    refine Calls.mono HN.out ?_
    rintro z w2 ⟨rfl, c2⟩
    exact ⟨rfl, .inl ⟨by decide, rfl⟩, c2.mono (fun _ f => f.elim)⟩
  · rw [if_neg hlt] at HZE
    have hle : a + zp ≤ n := by omega
    have HLE : Hid (a + zp ≤ n) := hle
    have HN : Hid _ := next_ok f ad n c a zp w0 h.fld hle hc hn
    have hrow0 := row8_cutZ2 (Bk.row8_chg hB h.ch) hc (k := a) (m := zp) hle
    have HROW : Hid (∀ w, Chg (fun _ => False) W0 w → Row8 w (cutZ ad c a 1) zp (c - a) (nums ((bs.drop a).take zp))) := fun w hw => row8_cutZ2 (Bk.row8_chg hB hw) hc (k := a) (m := zp) hle
    obtain ⟨ca, hca⟩ : ∃ x, cutZ ad c a 1 = x := ⟨_, rfl⟩
    rw [hca] at HN HROW
    clear hB hd hc hn h hlt hbl hle hrow0 hca
    go_enter Tryd.func29, Tryd.ntmps29
    go_wp2_with fail
    refine Calls.mono (HPD.out _) ?_
    rintro z w2 ⟨rfl, rfl⟩
    go_wp2_with fail
    refine Calls.mono HN.out ?_
    rintro z w2 ⟨rfl, h2, c2⟩
    have HF2 : Hid (Fd W0 f ad n c (a + zp) w2 ∧ Chg (fun z => z = f) w0 w2) := ⟨HF.out.on h2 c2 (fun z e => by have := HF.out.lo; omega) HLE.out, c2⟩
    clear h2 c2 HN x0 x1 HF HPD
    go_wp2_with fail
    go_loopw [12] (fun i wr => ∃ j : Nat, j ≤ zp ∧ i = .int .i64 (j : Int) ∧ wr = w2 ∧ Hid (∀ i, i < j → bs.getD (a + i) 0 = 0)) (fun i _ => zp - (intOf i).toNat)
    case atStart => exact ⟨0, by omega, rfl, rfl, fun i hi => by omega⟩
    case round =>
      obtain ⟨j, hj, rfl, rfl, HJ⟩ := hrel
      have hji : (j : Int) ≤ (zp : Int) := by omega
      by_cases hlt : j < zp
      · have d1 : decide ((j : Int) < (zp : Int)) = true := decide_eq_true (by omega)
        have d1' : decide (j < zp) = true := decide_eq_true hlt
        obtain ⟨bb, off, rfl, hcs⟩ := row8_at (HROW.out wr HF2.out.1.ch) (by omega)
        have y0 := hcs j hlt
        have hgd : ((bs.drop a).take zp).getD j 0 = bs.getD (a + j) 0 := by
          rw [List.getD_eq_getElem?_getD, List.getD_eq_getElem?_getD, List.getElem?_take, if_pos hlt, List.getElem?_drop]
        rw [hgd] at y0
        obtain ⟨B0, hB0⟩ : ∃ x, bs.getD (a + j) 0 = x := ⟨_, rfl⟩
        rw [hB0] at y0
        by_cases hb : B0 = 0
        · subst hb
          have HJ2 : Hid (∀ i, i < j + 1 → bs.getD (a + i) 0 = 0) := fun i hi => by
            by_cases e : i = j
            · rw [e, hB0]
            · exact HJ.out i (by omega)
          clear hcs hgd hB0
          go_wp2
          go_roundw
          case rel => exact ⟨j + 1, by omega, by go_num, by first | trivial | rfl, HJ2⟩
          case measure => simp [intOf]; omega
        · have y1 : ((B0 : Int) != 0) = true := by simpa using hb
          have y2 : ((B0 : Int) == 0) = false := by simpa using hb
          have hE : zerE bs a = 2 := by rw [HZE.out, if_pos (zero_at hlt (by rw [HBL.out]; exact HLE.out) (by rw [hB0]; exact hb))]
          have HE : Hid (zerE bs a = 2) := hE
          clear hcs hgd hB0 hb hE
          go_wp2
          exact ⟨rfl, .inl ⟨by rw [HE.out]; decide, by rw [HE.out]; rfl⟩, HF2.out.2⟩
      · obtain rfl : j = zp := by omega
        have hE : zerE bs a = 0 := by rw [HZE.out, if_neg (zero_all (by rw [HBL.out]; exact HLE.out) HJ.out)]
        have HE : Hid (zerE bs a = 0) := hE
        clear hE
        go_wp2
        go_end0
        exact ⟨.inr ⟨HE.out, rfl, HF2.out.1⟩, HF2.out.2⟩
set_option maxHeartbeats 8000000 in
set_option maxRecDepth 100000 in
theorem sum23_any (W0 : World) (f : Nat) (ad : Option Addr) (n c S : Nat) (bs : List Nat) (w0 : World) (hT : Cq.Tab W0) (hB : Row8 W0 ad n c (nums bs)) (hd : Rc.Dig bs) (hc : n ≤ c) (hn : n ≤ 140737488355328) (h : Fd W0 f ad n c S w0) : Calls Tryd.prog 30 #[.pointer (some ⟨f, 0, none⟩)] w0 fun e w' => ((sumE bs S ≠ 0 ∧ e = .panicked (gaveX (sumE bs S))) ∨ (sumE bs S = 0 ∧ e = .returned (.tuple #[]) ∧ Fd W0 f ad n c (S + 4) w')) ∧ Chg (fun z => z = f) w0 w' := by
  have hbl : bs.length = n := by have h9 := hB.1; rw [nums_len] at h9; exact h9
  have HSE : Hid (sumE bs S = if n < S + 4 then 1 else if (bs.drop S).take 4 ≠ crc4 (bs.take S) then 3 else 0) := by show _ = _; unfold sumE; rw [hbl]
  have hSn := h.ha
  have hSi : (S : Int) ≤ 140737488355328 := by omega
  obtain ⟨x0, x1, _⟩ := h.fld.x
  have HF : Hid (Fd W0 f ad n c S w0) := h
  have hcut : ∀ ww, (Instr.sliceAt 22 (.slice ad n c) none (some (.int .i64 (S : Int))) none).run Tryd.prog ww = .ok (.slice ad S c) ww := fun ww => run_cutZ_hi undBy elemBy sizeBy ad n c S ww (by omega)
  by_cases hlt : n < S + 4
  · have hE : sumE bs S = 1 := by rw [HSE.out, if_pos hlt]
    have HN : Hid (∀ q, Calls Tryd.prog 52 #[.pointer (some ⟨f, 0, none⟩), .int .i64 4] (w0.drewN q) fun e w' => e = .panicked (gaveX 1) ∧ Chg (fun _ => False) (w0.drewN q) w') := fun q => next_no f ad n c S 4 (w0.drewN q) (h.fld.keep (chg_drewN _ _) (fun f => f)) h.ha hlt (by decide) hn
    rw [hE]
    clear hT hB hd hc hn h hE hlt hbl HSE hSn
    go_enter Tryd.func30, Tryd.ntmps30
    go_upto_region 0 with fail
    go_quiet (fail)
    go_wp2_with fail
    refine Calls.mono (HN.out _) ?_
    rintro z w2 ⟨rfl, c2⟩
    exact ⟨rfl, .inl ⟨by decide, rfl⟩, (chg_then (chg_drewN _ _) c2).mono (fun _ f => f.elim)⟩
  · rw [if_neg hlt] at HSE
    have hle : S + 4 ≤ n := by omega
    have HLE : Hid (S + 4 ≤ n) := hle
    have HN : Hid (∀ q, Calls Tryd.prog 52 #[.pointer (some ⟨f, 0, none⟩), .int .i64 4] (w0.drewN q) fun e w' => e = .returned (.slice (cutZ ad c S 1) 4 (c - S)) ∧ Fld w' f ad n c (S + 4) ∧ Chg (fun z => z = f) (w0.drewN q) w') := fun q => next_ok f ad n c S 4 (w0.drewN q) (h.fld.keep (chg_drewN _ _) (fun f => f)) hle hc hn
    obtain ⟨Y, hY⟩ : ∃ Y, (bs.drop S).take 4 = Y := ⟨_, rfl⟩
    obtain ⟨PR, hPR⟩ : ∃ PR, bs.take S = PR := ⟨_, rfl⟩
    have hyl : Y.length = 4 := by rw [← hY, List.length_take, List.length_drop]; omega
    have hdy : Rc.Dig Y := by rw [← hY]; exact dig_take (dig_drop hd _) _
    have hdp : Rc.Dig PR := by rw [← hPR]; exact dig_take hd _
    have HROW : Hid (∀ w, Chg (fun _ => False) W0 w → Row8 w (cutZ ad c S 1) 4 (c - S) (nums Y)) := fun w hw => by
      rw [← hY]
      exact row8_cutZ2 (Bk.row8_chg hB hw) hc (k := S) (m := 4) hle
    have HPR : Hid (∀ w, Chg (fun _ => False) W0 w → Row8 w ad S c (nums PR)) := fun w hw => by
      rw [← hPR]
      exact row8_take (Bk.row8_chg hB hw) hSn
    have hm := more_dig hdp
    have hlb := lowNum4_bdX hyl hdy
    have hiff := low4_iffX hyl hdy hm
    have HEQ : Hid (decide (Y ≠ crc4 PR) = (Wire.lowNum (nums Y) != ((Cq.Crc.more Cq.Crc.P32 32 0 PR : Nat) : Int))) := by
      show _ = _
      by_cases e : Y = crc4 PR
      · rw [decide_eq_false (by simpa using e), hiff.2 e]
        simp
      · rw [decide_eq_true e]
        symm
        simpa using fun f => e (hiff.1 f)
    have HLW : Hid (∀ (B a g : Nat) (w : World), Wire.Rd B w a g (nums Y) 0 → Calls Tryd.prog 58 #[.pointer (some ⟨a, 0, none⟩), .int .i64 4] w fun e w' => e = .returned (.tuple #[.int .u64 (Wire.lowNum (nums Y)), .int .i64 0]) ∧ Wire.Rd B w' a g (nums Y) (0 + 4) ∧ Chg (fun k => k = a) w w') := fun B a g w hr => Wire.rlow_core B a g 0 (nums Y) (nums Y) 4 w hr (by decide) (by decide) (by rw [nums_len, hyl]; decide) (fun x hx => by
      obtain ⟨y, hy, rfl⟩ := List.mem_map.1 hx
      have := hdy y hy
      omega) (by show _ = _; rw [List.drop_zero, List.take_of_length_le (by rw [nums_len, hyl]; exact Nat.le_refl _)])
    have HSM : Hid (∀ w, Chg (fun _ => False) W0 w → Calls Tryd.prog 40 #[.slice (some ⟨w.heap.size, 0, none⟩) 1 1] (w.alloc (.cells #[.slice ad S c] 22)) fun e w' => e = .returned (.int .u32 (Cq.Crc.more Cq.Crc.P32 32 0 PR : Nat)) ∧ w.alloc (.cells #[.slice ad S c] 22) = w') := fun w hw => by
      have h9 := Cq.sum32_any ⟨w.heap.size, 0, none⟩ 1 1 [PR] (w.alloc (.cells #[.slice ad S c] 22)) (hT.new (chg_then hw (chg_one w _))) (Cq.pieces_one 22 ⟨ad, S, c, rfl, HPR.out w hw, hdp, by omega⟩) rfl (by decide)
      rw [show ([PR] : List (List Nat)).flatten = PR by simp] at h9
      exact h9
    obtain ⟨L, hL⟩ : ∃ L, Wire.lowNum (nums Y) = L := ⟨_, rfl⟩
    obtain ⟨M, hM⟩ : ∃ M, Cq.Crc.more Cq.Crc.P32 32 0 PR = M := ⟨_, rfl⟩
    rw [hL] at HLW HEQ hlb
    rw [hM] at HSM HEQ hm
    rw [hY, hPR] at HSE
    have hm0 : (M : Int) < 4294967296 := by omega
    have hl0 := hlb.1
    have hl1 := hlb.2
    obtain ⟨ca, hca⟩ : ∃ x, cutZ ad c S 1 = x := ⟨_, rfl⟩
    rw [hca] at HN HROW
    clear hT hB hd hc hn h hlt hbl hle hSn hY hPR hyl hdy hdp hlb hiff hL hM hm hca HPR
    go_enter Tryd.func30, Tryd.ntmps30
    go_upto_region 0 with fail
    go_quiet (fail)
    go_wp2_with fail
    refine Calls.mono (HN.out _) ?_
    rintro z w2 ⟨rfl, h2, c2⟩
    have HF2 : Hid (Fd W0 f ad n c (S + 4) w2 ∧ Chg (fun z => z = f) w0 w2) := ⟨(HF.out.go (chg_drewN _ nq) (fun _ f => f.elim)).on h2 c2 (fun z e => by have := HF.out.lo; omega) HLE.out, ((chg_drewN w0 nq).mono (fun _ f => f.elim)).trans c2 (fun z e => .inl e)⟩
    clear h2 c2 HN x0 x1 HF hcut
    have HNR : Hid _ := Wire.newReader_any w2.heap.size ca 4 (c - S) (nums Y) w2 (HROW.out w2 HF2.out.1.ch) (by decide) (Nat.le_refl _)
    go_wp2_with fail
    refine Calls.mono HNR.out ?_
    rintro z w3 ⟨a, rfl, hr, c3, ha⟩
    have HX : Hid _ := HLW.out _ a _ w3 hr
    have HF3 : Hid (Fd W0 f ad n c (S + 4) w3 ∧ Chg (fun z => z = f) w0 w3 ∧ w2.heap.size ≤ a) := ⟨HF2.out.1.go c3 (fun _ f => f.elim), Vint.chg_then HF2.out.2 c3, ha⟩
    have HFW : Hid (f < w2.heap.size ∧ W0.heap.size ≤ w2.heap.size ∧ w0.heap.size ≤ w2.heap.size) := ⟨lt_of_blk HF2.out.1.fld, HF2.out.1.ch.size, HF2.out.2.size⟩
    clear hr c3 ha HNR HLW HF2 HROW
    go_wp2_with fail
    refine Calls.mono HX.out ?_
    rintro z w4 ⟨rfl, -, c4⟩
    have HF4 : Hid (Fd W0 f ad n c (S + 4) w4 ∧ Chg (fun z => z = f) w0 w4) := ⟨HF3.out.1.go c4 (fun z e => by have := HF3.out.2.2; have := HFW.out; omega), HF3.out.2.1.trans c4 (fun z e => .inr (by have := HF3.out.2.2; have := HFW.out; omega))⟩
    have HS4 : Hid _ := HSM.out w4 HF4.out.1.ch
    clear c4 HX HF3 HSM
    go_wp2_with fail
    refine Calls.mono HS4.out ?_
    rintro z w5 ⟨rfl, rfl⟩
    have HF5 : Hid (Fd W0 f ad n c (S + 4) (w4.alloc (.cells #[.slice ad S c] 22)) ∧ Chg (fun z => z = f) w0 (w4.alloc (.cells #[.slice ad S c] 22))) := ⟨HF4.out.1.go (chg_one _ _) (fun _ f => f.elim), Vint.chg_then HF4.out.2 (chg_one _ _)⟩
    clear HF4 HS4
    generalize w4.alloc (.cells #[.slice ad S c] 22) = w5 at *
    have ew : IntKind.u64.wrap (M : Int) = (M : Int) := w64 (by omega) (by omega)
    by_cases he : Y = crc4 PR
    · have hE : sumE bs S = 0 := by rw [HSE.out, if_neg (by simpa using he)]
      have hq := HEQ.out
      rw [decide_eq_false (by simpa using he)] at hq
      have hq1 : (L != (M : Int)) = false := hq.symm
      have HE : Hid (sumE bs S = 0) := hE
      clear he hE hq HEQ HSE
      go_wp2
      go_end0
      exact ⟨.inr ⟨HE.out, rfl, HF5.out.1⟩, HF5.out.2⟩
    · have hE : sumE bs S = 3 := by rw [HSE.out, if_pos he]
      have hq := HEQ.out
      rw [decide_eq_true he] at hq
      have hq1 : (L != (M : Int)) = true := hq.symm
      have HE : Hid (sumE bs S = 3) := hE
      clear he hE hq HEQ HSE
      go_wp2
      exact ⟨rfl, .inl ⟨by rw [HE.out]; decide, by rw [HE.out]; rfl⟩, HF5.out.2⟩
end Go.Proofs.YtehfcfpbjenmjaaDoor
