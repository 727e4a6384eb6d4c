/- The document's own Get of an index; of no statement by itself. -/
import Derived.Test.YtehfcfpbjenmjaaDoorIxj
namespace Go.Proofs.YtehfcfpbjenmjaaDoor
open Go.RowKit
set_option linter.unusedVariables false
set_option linter.unusedSimpArgs false
theorem row8_cutZ {w : World} {ad : Option Addr} {n c k : Nat} {bs : List Nat} (h : Row8 w ad n c (nums bs)) (hc : n ≤ c) (hk : k ≤ n) : Row8 w (cutZ ad c k 1) (n - k) (c - k) (nums (bs.drop k)) := by
  have hl := h.1
  rw [nums_len] at hl
  have := row8_cut h hc k (n - k) (c - k) (by omega) (by omega)
  rw [nums_cut, List.take_of_length_le (by rw [List.length_drop]; omega)] at this
  unfold cutZ
  rw [Nat.mul_one]
  exact this
theorem row8_cutZ2 {w : World} {ad : Option Addr} {n c k m : Nat} {bs : List Nat} (h : Row8 w ad n c (nums bs)) (hc : n ≤ c) (hk : k + m ≤ n) : Row8 w (cutZ ad c k 1) m (c - k) (nums ((bs.drop k).take m)) := by
  have := row8_cut h hc k m (c - k) hk (by omega)
  rw [nums_cut] at this
  unfold cutZ
  rw [Nat.mul_one]
  exact this
theorem run_cutZ_lh (ad : Option Addr) (m c k h : Nat) (w : World) (hk : k ≤ h) (hh : h ≤ c) : (Instr.sliceAt 22 (.slice ad m c) (some (.int .i64 (k : Int))) (some (.int .i64 (h : Int))) none).run Tryd.prog w = .ok (.slice (cutZ ad c k 1) (h - k) (c - k)) w := by
  rw [run_sliceAt_slice w 22 _ _ _ _ undBy, run_slice_lh w 22 ad m c undBy .i64 .i64 (k : Int) (h : Int) (by omega) (by omega) (by omega), elemBy, sizeBy]
  unfold cutZ sliced
  simp [Result.andThen]
theorem rvget_any (ad : Option Addr) (n c : Nat) (bs : List Nat) (w : World) (h : Row8 w ad n c (nums bs)) (hd : Rc.Dig bs) (hn : n ≤ 140737488355328) : Calls Tryd.prog 49 #[.slice ad n c] w fun e w' => e = .returned (.tuple #[.int .u64 ((getN bs).1 : Int), .int .i64 ((getN bs).2.1 : Int), .int .i64 (getN bs).2.2]) ∧ w = w' := by
  refine (Vint.refGet_any ad n c (nums bs) w h (dig_b8 hd) hn).mono fun e w' ⟨v, m, e', he, hg, hw⟩ => ?_
  obtain ⟨r1, r2, r3⟩ := getN_of hg
  subst hw
  rw [← r1, ← r2, ← r3]
  exact ⟨he, rfl⟩
theorem rs_bad1 {m at_ : Nat} {b p : Int} {acc : List Rec} {r : List Nat} (h : (getN r).2.2 ≠ 0) : Ix23.getRs (m + 1) b p at_ acc r = ([], 0, (getN r).2.2) := by rw [Ix23.getRs, if_pos h]
theorem rs_bad2 {m at_ : Nat} {b p : Int} {acc : List Rec} {r : List Nat} (h : (getN r).2.2 = 0) (hp : p ≤ 9223372036854775807) (hf : Ix23.fitB b p ⟨(getN r).1, 0⟩ = false) : Ix23.getRs (m + 1) b p at_ acc r = ([], 0, 2) := by
  rw [Ix23.getRs, if_neg (by simpa using h), if_pos]
  have h1 : ¬ Ix23.fitB b p ⟨(getN r).1, 0⟩ = true := by rw [hf]; simp
  rw [Ix23.fit_is] at h1
  simp only at h1
  omega
theorem rs_bad3 {m at_ : Nat} {b p : Int} {acc : List Rec} {r : List Nat} (h : (getN r).2.2 = 0) (hf : Ix23.fitB b p ⟨(getN r).1, 0⟩ = true) (h2 : (getN (r.drop (getN r).2.1)).2.2 ≠ 0) : Ix23.getRs (m + 1) b p at_ acc r = ([], 0, (getN (r.drop (getN r).2.1)).2.2) := by
  rw [Ix23.fit_is] at hf
  simp only at hf
  rw [Ix23.getRs, if_neg (by simpa using h), if_neg (by omega), if_pos h2]
theorem rs_bad4 {m at_ : Nat} {b p : Int} {acc : List Rec} {r : List Nat} (h : (getN r).2.2 = 0) (hf : Ix23.fitB b p ⟨(getN r).1, 0⟩ = true) (h2 : (getN (r.drop (getN r).2.1)).2.2 = 0) (hg : Ix23.fitB b p ⟨(getN r).1, (getN (r.drop (getN r).2.1)).1⟩ = false) : Ix23.getRs (m + 1) b p at_ acc r = ([], 0, 2) := by
  have h1 : ¬ Ix23.fitB b p ⟨(getN r).1, (getN (r.drop (getN r).2.1)).1⟩ = true := by rw [hg]; simp
  rw [Ix23.fit_is] at hf h1
  simp only at hf h1
  rw [Ix23.getRs, if_neg (by simpa using h), if_neg (by omega), if_neg (by simpa using h2), if_pos (by omega)]
theorem rs_go {m at_ : Nat} {b p : Int} {acc : List Rec} {r : List Nat} (h : (getN r).2.2 = 0) (h2 : (getN (r.drop (getN r).2.1)).2.2 = 0) (hg : Ix23.fitB b p ⟨(getN r).1, (getN (r.drop (getN r).2.1)).1⟩ = true) : Ix23.getRs (m + 1) b p at_ acc r = Ix23.getRs m (b + Ix23.pad (getN r).1) (p + (getN (r.drop (getN r).2.1)).1) (at_ + ((getN r).2.1 + (getN (r.drop (getN r).2.1)).2.1)) (acc ++ [⟨(getN r).1, (getN (r.drop (getN r).2.1)).1⟩]) (r.drop ((getN r).2.1 + (getN (r.drop (getN r).2.1)).2.1)) := by
  rw [Ix23.fit_is] at hg
  simp only at hg
  rw [Ix23.getRs, if_neg (by simpa using h), if_neg (by omega), if_neg (by simpa using h2), if_neg (by omega)]
theorem fit_zero {b p u s : Int} (h : Ix23.fitB b p ⟨u, 0⟩ = false) : Ix23.fitB b p ⟨u, s⟩ = false ∨ s < 0 ∨ 9223372036854775807 < p := by
  by_cases hp : 9223372036854775807 < p
  · exact .inr (.inr hp)
  by_cases hs : s < 0
  · exact .inr (.inl hs)
  cases e : Ix23.fitB b p ⟨u, s⟩
  · exact .inl rfl
  · have h1 : ¬ Ix23.fitB b p ⟨u, 0⟩ = true := by rw [h]; simp
    rw [Ix23.fit_is] at e h1
    simp only at e h1
    omega
theorem pad_nat (k : Nat) : Ix23.pad (k : Int) = ((k + Ix23.zpad k : Nat) : Int) := by unfold Ix23.pad Ix23.zpad; omega
theorem w64i {n : Int} (h0 : 0 ≤ n) (h1 : n ≤ 9223372036854775807) : IntKind.i64.wrap n = n := by simp [IntKind.wrap, IntKind.signed, IntKind.bits]; omega
theorem RcO.push {B : Nat} {w w2 : World} {lv lv' : Value} {q : List Rec} {x : Rec} {n : Nat} (h : RcO w B lv q) (hn : n = q.length + 1) (ho : w2.ownsRow B 43 2 lv' n (rcs q ++ rcs [x])) : RcO w2 B lv' (q ++ [x]) := by
  subst hn
  unfold RcO
  rw [List.length_append, List.length_singleton, rcs_app]
  exact ho
theorem zero_at {bs : List Nat} {at_ j : Nat} {z : Nat} (hj : j < z) (hb : at_ + z ≤ bs.length) (h : bs.getD (at_ + j) 0 ≠ 0) : ∃ x ∈ (bs.drop at_).take z, x ≠ 0 := by
  refine ⟨bs.getD (at_ + j) 0, ?_, h⟩
  have e : ((bs.drop at_).take z)[j]? = some (bs.getD (at_ + j) 0) := by
    rw [List.getElem?_take_of_lt hj, List.getElem?_drop, List.getD_eq_getElem?_getD, List.getElem?_eq_getElem (by omega)]
    rfl
  exact List.mem_of_getElem? e
theorem zero_all {bs : List Nat} {at_ z : Nat} (hb : at_ + z ≤ bs.length) (h : ∀ j, j < z → bs.getD (at_ + j) 0 = 0) : ¬ ∃ x ∈ (bs.drop at_).take z, x ≠ 0 := by
  rintro ⟨x, hx, hne⟩
  obtain ⟨j, hj⟩ := List.getElem?_of_mem hx
  have h1 := (List.getElem?_eq_some_iff.1 hj).1
  rw [List.length_take] at h1
  rw [List.getElem?_take_of_lt (by omega), List.getElem?_drop] at hj
  have h2 := h j (by omega)
  rw [List.getD_eq_getElem?_getD, hj] at h2
  exact hne h2
set_option maxHeartbeats 32000000 in
set_option maxRecDepth 100000 in
theorem rget23_any (ad : Option Addr) (n c : Nat) (bs : List Nat) (w0 : World) (h : Row8 w0 ad n c (nums bs)) (hd : Rc.Dig bs) (hc : n ≤ c) (hn : n ≤ 17592186044416) : Calls Tryd.prog 21 #[.slice ad n c] w0 fun e w' => ∃ lv, e = .returned (.tuple #[lv, .int .i64 ((Ix23.getI bs).2.1 : Int), .int .i64 (Ix23.getI bs).2.2]) ∧ RcO w' w0.heap.size lv (Ix23.getI bs).1 ∧ Chg (fun _ => False) w0 w' := by
  obtain ⟨iu, hiu, hu0, hu1, hu2⟩ := info_parts infoRc
  have HB : Hid (Row8 w0 ad n c (nums bs)) := h
  have HD : Hid (Rc.Dig bs) := hd
  have hbl : bs.length = n := by have h9 := h.1; rw [nums_len] at h9; exact h9
  have HBL : Hid (bs.length = n) := hbl
  have hni : (n : Int) ≤ 17592186044416 := by omega
  have HGI : Hid _ := Ix23.getI.eq_1 bs
  by_cases hn0 : n = 0
  · subst hn0
    have HE : Hid (Ix23.getI bs = ([], 0, 1)) := by show _ = _; rw [HGI.out, if_pos hbl]
    clear HGI h hd hbl
    go_enter Tryd.func21, Tryd.ntmps21
    go_wp2
    go_ret3
    exact ⟨_, (by rw [HE.out]; rfl), (by rw [HE.out]; exact World.ownsRow_nil _ _ _ _), Chg.refl _ _⟩
  · have hnz : ((n : Int) == 0) = false := by simp; omega
    obtain ⟨bb, off, rfl, hcs⟩ := row8_at h (by omega)
    have x0 := hcs 0 (by omega)
    rw [Nat.add_zero] at x0
    obtain ⟨B0, hB0⟩ : ∃ z, bs.getD 0 0 = z := ⟨_, rfl⟩
    rw [hB0] at x0
    have HCS : Hid (∀ i, i < n → w0.cell? ⟨bb, off + i, none⟩ = some (.int .u8 ((bs.getD i 0 : Nat) : Int))) := hcs
    have hnn : ¬ bs.length = 0 := by omega
    by_cases hz : B0 = 0
    · subst hz
      obtain ⟨mm, m1, hmm⟩ : ∃ a b, (getN (bs.drop 1)).1 = a ∧ (getN (bs.drop 1)).2.1 = b := ⟨_, _, rfl, rfl⟩
      obtain ⟨hmm, hm1⟩ := hmm
      obtain ⟨me, hme⟩ : ∃ a, (getN (bs.drop 1)).2.2 = a := ⟨_, rfl⟩
      have HG0 := rvget_any (cutZ (some ⟨bb, off, none⟩) c 1 1) (n - 1) (c - 1) (bs.drop 1) w0 (row8_cutZ h hc (by omega)) (dig_drop hd 1) (by omega)
      rw [hmm, hm1, hme] at HG0
      have HG0 : Hid _ := HG0
      have hcut1 : ∀ ww, (Instr.sliceAt 22 (.slice (some ⟨bb, off, none⟩) n c) (some (.int .i64 1)) none none).run Tryd.prog ww = .ok (.slice (cutZ (some ⟨bb, off, none⟩) c 1 1) (n - 1) (c - 1)) ww := fun ww => run_cutZ_lo undBy elemBy sizeBy _ n c 1 ww (by omega)
      have hpos := getN_pos (bs.drop 1)
      rw [hmm, hm1, hme, List.length_drop, hbl] at hpos
      have hgi := HGI.out
      rw [if_neg hnn, hB0, if_neg (by simp), hmm, hm1, hme] at hgi
      by_cases he : me = 0
      · subst he
        rw [if_neg (by simp)] at hgi
        obtain ⟨a2, a3⟩ : mm ≤ 9223372036854775807 ∧ 1 + m1 ≤ n := by
          have := (getN_back (dig_drop hd 1) hme).2
          omega
        have HI2 : Hid (Ix23.getI bs = if (Ix23.getRs mm 0 0 (1 + m1) [] (bs.drop (1 + m1))).2.2 ≠ 0 then ([], 0, (Ix23.getRs mm 0 0 (1 + m1) [] (bs.drop (1 + m1))).2.2) else Ix23.tailI bs (Ix23.getRs mm 0 0 (1 + m1) [] (bs.drop (1 + m1))).1 (Ix23.getRs mm 0 0 (1 + m1) [] (bs.drop (1 + m1))).2.1) := hgi
        have hmi : (mm : Int) ≤ 9223372036854775807 := by omega
        have h1i : (m1 : Int) ≤ 17592186044416 := by omega
        clear HGI h hd hbl hcs hB0 hmm hm1 hme hpos hgi hnn
        go_enter Tryd.func21, Tryd.ntmps21
        go_wp2_with fail
        refine Calls.mono HG0.out ?_
        rintro z w1 ⟨rfl, rfl⟩
        clear hcut1 HG0 x0
        go_wp2_with fail
        go_loopw [8, 9, 10, 11] (fun t v x y wr => ∃ (k a : Nat) (b p : Int) (acc : List Rec), k ≤ mm ∧ a ≤ n ∧ 2 * k ≤ a ∧ t = .int .i64 (a : Int) ∧ x = .int .u64 b ∧ y = .int .u64 p ∧ (0 ≤ b ∧ b ≤ 9223372036854775807) ∧ (0 ≤ p ∧ p ≤ 9223372036854775807) ∧ Hid (acc.length = k) ∧ Hid (Ix23.getRs mm 0 0 (1 + m1) [] (bs.drop (1 + m1)) = Ix23.getRs (mm - k) b p a acc (bs.drop a)) ∧ Hid (RcO wr w0.heap.size v acc) ∧ Hid (Chg (fun _ => False) w0 wr)) (fun t _ _ _ _ => n - (intOf t).toNat)
        case atStart => exact ⟨0, 1 + m1, 0, 0, [], by omega, by omega, by omega, by go_num, rfl, rfl, by omega, by omega, rfl, rfl, World.ownsRow_nil _ _ _ _, Chg.refl _ _⟩
        case round =>
          obtain ⟨k, a, b, p, acc, hk, ha, h2k, rfl, rfl, rfl, ⟨hb0, hb1⟩, ⟨hp0, hp1⟩, HAL, HR, HO, HC⟩ := hrel
          obtain ⟨va, vc, rfl, _⟩ := formI HO.out
          rw [HAL.out]
          have hai : (a : Int) ≤ (n : Int) := by omega
          have hkk : (k : Int) ≤ (mm : Int) := by omega
          have ek : IntKind.u64.wrap (k : Int) = (k : Int) := w64 (by omega) (by omega)
          by_cases hlt : k < mm
          · have d1 : decide ((k : Int) < (mm : Int)) = true := decide_eq_true (by omega)
            have d1' : decide (k < mm) = true := decide_eq_true hlt
            have hR := HR.out
            obtain ⟨md, hmd⟩ : ∃ x, mm - k = x + 1 := ⟨mm - k - 1, by omega⟩
            rw [hmd] at hR
            have hG1 := rvget_any (cutZ (some ⟨bb, off, none⟩) c a 1) (n - a) (c - a) (bs.drop a) wr (row8_cutZ (Bk.row8_chg HB.out HC.out) hc ha) (dig_drop HD.out a) (by omega)
            have hcutA : ∀ ww, (Instr.sliceAt 22 (.slice (some ⟨bb, off, none⟩) n c) (some (.int .i64 (a : Int))) none none).run Tryd.prog ww = .ok (.slice (cutZ (some ⟨bb, off, none⟩) c a 1) (n - a) (c - a)) ww := fun ww => run_cutZ_lo undBy elemBy sizeBy _ n c a ww ha
            have hposU := getN_pos (bs.drop a)
            have hback := getN_back (dig_drop HD.out a)
            have hb1_ := fun (h : (getN (bs.drop a)).2.2 ≠ 0) => rs_bad1 (m := md) (at_ := a) (b := b) (p := p) (acc := acc) h
            have hb2_ := fun (h : (getN (bs.drop a)).2.2 = 0) hf => rs_bad2 (m := md) (at_ := a) (b := b) (p := p) (acc := acc) h hp1 hf
            have hb3_ := fun (h : (getN (bs.drop a)).2.2 = 0) hf h2 => rs_bad3 (m := md) (at_ := a) (b := b) (p := p) (acc := acc) h hf h2
            have hb4_ := fun (h : (getN (bs.drop a)).2.2 = 0) hf h2 hg => rs_bad4 (m := md) (at_ := a) (b := b) (p := p) (acc := acc) h hf h2 hg
            have hgo_ := fun (h : (getN (bs.drop a)).2.2 = 0) h2 hg => rs_go (m := md) (at_ := a) (b := b) (p := p) (acc := acc) h h2 hg
            obtain ⟨⟨U, nU, eU⟩, hg⟩ : ∃ x, getN (bs.drop a) = x := ⟨_, rfl⟩
            rw [hg, List.length_drop, HBL.out] at hposU
            rw [hg] at hG1 hback hb1_ hb2_ hb3_ hb4_ hgo_
            simp only at hG1 hback hposU hb1_ hb2_ hb3_ hb4_ hgo_
            rw [← hR] at hb1_ hb2_ hb3_ hb4_ hgo_
            have HG1 : Hid _ := hG1
            have HMD : Hid (mm - k = md + 1) := hmd
            clear hR hg hG1
            by_cases heU : eU = 0
            · subst heU
              have hU9 := (hback rfl).2
              have HU : Hid (1 ≤ nU ∧ a + nU ≤ n) := by show _ ∧ _; omega
              have HF1 : Hid _ := fun ww => fits_any b p (U : Int) 0 ww hb0 hb1 hp0 hp1 ⟨⟨by simp only; omega, by simp only; omega⟩, by simp only; omega, by simp only; omega⟩
              have eU1 : IntKind.i64.wrap (U : Int) = (U : Int) := w64i (by omega) (by omega)
              have H2 : Hid _ := hb2_ rfl
              have H3 : Hid _ := hb3_ rfl
              have H4 : Hid _ := hb4_ rfl
              have HGO : Hid _ := hgo_ rfl
              have hnU : (nU : Int) ≤ 9 := by omega
              have hanU : (a : Int) + (nU : Int) ≤ (n : Int) := by omega
              have hUi : (U : Int) ≤ 9223372036854775807 := by omega
              have hU9' : U ≤ 9223372036854775807 := hU9
              obtain ⟨ok1, hok1⟩ : ∃ x, Ix23.fitB b p ⟨(U : Int), 0⟩ = x := ⟨_, rfl⟩
              rw [hok1] at HF1 H2 H3 H4
              clear hb1_ hb2_ hb3_ hb4_ hgo_ hposU hback hmd hok1
              go_wp2_with fail
              refine Calls.mono HG1.out ?_
              rintro z w2 ⟨rfl, rfl⟩
              clear hcutA HG1
              go_wp2_with fail
              refine Calls.mono (HF1.out _) ?_
              rintro z w3 ⟨x, y, rfl, -, c3⟩
              have HC3 : Hid (Chg (fun _ => False) w0 w3) := chg_then HC.out c3
              have HO3 : Hid (RcO w3 w0.heap.size (.slice va acc.length vc) acc) := HO.out.new c3
              clear c3 HF1 HO HC
              cases ok1
              · have HE : Hid (Ix23.getI bs = ([], 0, 2)) := by show _ = _; rw [HI2.out, H2.out rfl, if_pos (by decide)]
                go_wp2
                go_ret3
                exact ⟨_, (by rw [HE.out]; rfl), (by rw [HE.out]; exact World.ownsRow_nil _ _ _ _), HC3.out⟩
              · have hG2 := rvget_any (cutZ (some ⟨bb, off, none⟩) c (a + nU) 1) (n - (a + nU)) (c - (a + nU)) (bs.drop (a + nU)) w3 (row8_cutZ (Bk.row8_chg HB.out HC3.out) hc HU.out.2) (dig_drop HD.out _) (by omega)
                have hcutB : ∀ ww, (Instr.sliceAt 22 (.slice (some ⟨bb, off, none⟩) n c) (some (.int .i64 ((a : Int) + (nU : Int)))) none none).run Tryd.prog ww = .ok (.slice (cutZ (some ⟨bb, off, none⟩) c (a + nU) 1) (n - (a + nU)) (c - (a + nU))) ww := fun ww => by
                  have := run_cutZ_lo undBy elemBy sizeBy (some ⟨bb, off, none⟩) n c (a + nU) ww HU.out.2
                  rw [Int.natCast_add] at this
                  exact this
                have hposV := getN_pos (bs.drop (a + nU))
                have hbackV := getN_back (dig_drop HD.out (a + nU))
                have h3 := H3.out rfl
                have h4 := H4.out rfl
                have hgo := HGO.out
                rw [List.drop_drop] at h3 h4 hgo
                rw [List.drop_drop] at hgo
                obtain ⟨⟨VV, nV, eV⟩, hg⟩ : ∃ x, getN (bs.drop (a + nU)) = x := ⟨_, rfl⟩
                rw [hg, List.length_drop, HBL.out] at hposV
                rw [hg] at hG2 hbackV h3 h4 hgo
                simp only at hG2 hposV hbackV h3 h4 hgo
                have HG2 : Hid _ := hG2
                clear hg hG2 H2 H3 H4 HGO
                by_cases heV : eV = 0
                · subst heV
                  have hV9 : VV ≤ 9223372036854775807 := (hbackV rfl).2
                  have HV : Hid (1 ≤ nV ∧ a + (nU + nV) ≤ n) := by show _ ∧ _; have := HU.out; omega
                  have hUV : a + (nU + nV) ≤ n := HV.out.2
                  have HF2 : Hid _ := fun ww => fits_any b p (U : Int) (VV : Int) ww hb0 hb1 hp0 hp1 ⟨⟨by simp only; omega, by simp only; omega⟩, by simp only; omega, by simp only; omega⟩
                  have eV1 : IntKind.i64.wrap (VV : Int) = (VV : Int) := w64i (by omega) (by omega)
                  have hnV : (nV : Int) ≤ 9 := by omega
                  have hanV : (a : Int) + (nU : Int) + (nV : Int) ≤ (n : Int) := by omega
                  have H4 : Hid _ := h4 rfl
                  have HGO : Hid _ := hgo rfl
                  have hfit := @Ix23.fit_is b p ⟨(U : Int), (VV : Int)⟩
                  obtain ⟨ok2, hok2⟩ : ∃ x, Ix23.fitB b p ⟨(U : Int), (VV : Int)⟩ = x := ⟨_, rfl⟩
                  rw [hok2] at HF2 H4 HGO hfit
                  have HFI : Hid _ := hfit
                  clear hfit h3 h4 hgo hposV hbackV hok2
                  go_wp2_with fail
                  refine Calls.mono HG2.out ?_
                  rintro z w4 ⟨rfl, rfl⟩
                  clear hcutB HG2
                  have cR := chg_one w3 (.cells #[.int .i64 (U : Int), .int .i64 (VV : Int)] 43)
                  have bR := heap_alloc_last w3 (.cells #[.int .i64 (U : Int), .int .i64 (VV : Int)] 43)
                  have y0 : (w3.alloc (.cells #[.int .i64 (U : Int), .int .i64 (VV : Int)] 43)).cell? ⟨w3.heap.size, 0, none⟩ = some (.int .i64 (U : Int)) := cell0 bR
                  have y1 : (w3.alloc (.cells #[.int .i64 (U : Int), .int .i64 (VV : Int)] 43)).cell? ⟨w3.heap.size, 1, none⟩ = some (.int .i64 (VV : Int)) := cell1 bR
                  have HCR : Hid (Chg (fun _ => False) w0 (w3.alloc (.cells #[.int .i64 (U : Int), .int .i64 (VV : Int)] 43))) := chg_then HC3.out cR
                  have HOR : Hid (RcO (w3.alloc (.cells #[.int .i64 (U : Int), .int .i64 (VV : Int)] 43)) w0.heap.size (.slice va acc.length vc) acc) := HO3.out.new cR
                  clear cR bR HC3 HO3
                  go_wp2_with fail
                  refine Calls.mono (HF2.out _) ?_
                  rintro z w5 ⟨x, y, rfl, hxy, c5⟩
                  have z0 := cell_chg y0 c5
                  have z1 := cell_chg y1 c5
                  have HC5 : Hid (Chg (fun _ => False) w0 w5) := chg_then HCR.out c5
                  have HO5 : Hid (RcO w5 w0.heap.size (.slice va acc.length vc) acc) := HOR.out.new c5
                  have HXY : Hid (ok2 = true → x = b + Ix23.pad (U : Int) ∧ y = p + (VV : Int)) := hxy
                  clear y0 y1 c5 HF2 HCR HOR hxy
                  cases ok2
                  · have HE : Hid (Ix23.getI bs = ([], 0, 2)) := by show _ = _; rw [HI2.out, H4.out rfl, if_pos (by decide)]
                    go_wp2
                    go_ret3
                    exact ⟨_, (by rw [HE.out]; rfl), (by rw [HE.out]; exact World.ownsRow_nil _ _ _ _), HC5.out⟩
                  · obtain ⟨rfl, rfl⟩ := HXY.out rfl
                    obtain ⟨f1, f2, f3, f4, f5⟩ := HFI.out.1 rfl
                    try simp only at f1 f2 f3 f4 f5
                    have fp := (Ix23.pad_is (U : Int)).1
                    have hk1 : 2 * (k + 1) ≤ n := by have := HU.out; have := HV.out; omega
                    have HGO2 : Hid _ := HGO.out rfl
                    have cS := chg_one w5 (.cells #[.int .i64 (U : Int), .int .i64 (VV : Int)] 43)
                    have hown := HO5.out.new cS
                    unfold RcO at hown
                    rw [HAL.out] at hown
                    have hsrc := from_rc w5 ⟨(U : Int), (VV : Int)⟩ 43
                    have hB6 : w0.heap.size ≤ (w5.alloc (.cells #[.int .i64 (U : Int), .int .i64 (VV : Int)] 43)).heap.size := (chg_then HC5.out cS).size
                    have HC6 : Hid (Chg (fun _ => False) w0 (w5.alloc (.cells #[.int .i64 (U : Int), .int .i64 (VV : Int)] 43))) := chg_then HC5.out cS
                    clear cS H4 HGO HXY HFI
                    go_wp2_with (at_builtin; refine wpList_append_moved rfl _ _ 23 rfl w0.heap.size 43 iu (.agg #[.int .i64 0, .int .i64 0]) 2 16 Tryd.underlying23 hiu hu0 hu1 hu2 rfl (by decide) _ k (rcs acc) rfl (some ⟨w5.heap.size, 0, none⟩) 1 1 rfl (rcs [⟨(U : Int), (VV : Int)⟩]) ?h1 ?h2 ?h3 ?m1 ?m2 ?m3 ?_)
                    case h1 => exact hown
                    case h2 => exact hsrc
                    case h3 => exact rcs_cell _
                    case m1 => unfold maxLen; omega
                    case m2 => omega
                    case m3 => exact hB6
                    intro v7 w7 ho7 hg7 hm7
                    have HC7 : Hid (Chg (fun _ => False) w0 w7) := HC6.out.grown hg7 (fun g e => .inr ((hown.lt g e).1))
                    have HO7 : Hid (RcO w7 w0.heap.size v7 (acc ++ [⟨(U : Int), (VV : Int)⟩])) := RcO.push HO5.out (by rw [HAL.out]) ho7
                    obtain ⟨a7, d7, rfl, _⟩ := formI ho7
                    have HRN : Hid (Ix23.getRs mm 0 0 (1 + m1) [] (bs.drop (1 + m1)) = Ix23.getRs (mm - (k + 1)) (b + Ix23.pad (U : Int)) (p + (VV : Int)) (a + (nU + nV)) (acc ++ [⟨(U : Int), (VV : Int)⟩]) (bs.drop (a + (nU + nV)))) := by
                      show _ = _
                      rw [show mm - (k + 1) = md by have := HMD.out; omega]
                      exact HGO2.out
                    have HAL7 : Hid ((acc ++ [(⟨(U : Int), (VV : Int)⟩ : Rec)]).length = k + 1) := by show _ = _; rw [List.length_append, HAL.out]; rfl
                    generalize Ix23.pad (U : Int) = pU at *
                    clear ho7 hg7 hm7 hown hsrc hB6 HC6 HGO2 z0 z1
                    go_wp2
                    go_roundw
                    case rel => exact ⟨k + 1, a + (nU + nV), b + pU, p + VV, _, by omega, by omega, by have := HU.out; have := HV.out; omega, by go_num, rfl, rfl, by omega, by omega, HAL7, HRN, HO7, HC7⟩
                    case measure => have := HU.out; simp [intOf]; omega
                · have hne : (eV != 0) = true := by simp [heV]
                  have HE : Hid (Ix23.getI bs = ([], 0, eV)) := by show _ = _; rw [HI2.out, h3 heV, if_pos heV]
                  clear h3 h4 hgo hposV hbackV
                  go_wp2_with fail
                  refine Calls.mono HG2.out ?_
                  rintro z w4 ⟨rfl, rfl⟩
                  go_wp2
                  go_ret3
                  exact ⟨_, (by rw [HE.out]; rfl), (by rw [HE.out]; exact World.ownsRow_nil _ _ _ _), HC3.out⟩
            · have hne : (eU != 0) = true := by simp [heU]
              have HE : Hid (Ix23.getI bs = ([], 0, eU)) := by show _ = _; rw [HI2.out, hb1_ heU, if_pos heU]
              clear hb1_ hb2_ hb3_ hb4_ hgo_ hposU hback hmd
              go_wp2_with fail
              refine Calls.mono HG1.out ?_
              rintro z w2 ⟨rfl, rfl⟩
              go_wp2
              go_ret3
              exact ⟨_, (by rw [HE.out]; rfl), (by rw [HE.out]; exact World.ownsRow_nil _ _ _ _), HC.out⟩
          · obtain rfl : k = mm := by omega
            have hR0 := HR.out
            rw [Nat.sub_self, Ix23.getRs] at hR0
            have hgi2 : Ix23.getI bs = Ix23.tailI bs acc a := by rw [HI2.out, hR0, if_neg (by simp)]
            have HP := rpad_any (a : Int) wr (by omega) (by omega)
            rw [pad_nat] at HP
            have hzp := (Ix23.zpad_is a).1
            obtain ⟨zp, hz⟩ : ∃ x, Ix23.zpad a = x := ⟨_, rfl⟩
            unfold Ix23.tailI at hgi2
            rw [hz] at HP hzp hgi2
            obtain ⟨S, hS⟩ : ∃ x, a + zp = x := ⟨_, rfl⟩
            rw [hS] at HP hgi2
            rw [HBL.out] at hgi2
            have HP : Hid _ := HP
            have hSi : (S : Int) ≤ 17592186044500 := by omega
            have d1 : decide ((k : Int) < (k : Int)) = false := decide_eq_false (by omega)
            clear hR0 hz HI2 HR
            by_cases hsh : n < S
            · have e1 : decide ((n : Int) < (S : Int)) = true := decide_eq_true (by omega)
              have e1' : decide (n < S) = true := decide_eq_true hsh
              have HE : Hid (Ix23.getI bs = ([], 0, 1)) := by show _ = _; rw [hgi2, if_pos hsh]
              clear hgi2
              go_wp2_with fail
              refine Calls.mono HP.out ?_
              rintro z w2 ⟨rfl, rfl⟩
              go_wp2
              go_ret3
              exact ⟨_, (by rw [HE.out]; rfl), (by rw [HE.out]; exact World.ownsRow_nil _ _ _ _), HC.out⟩
            rw [if_neg hsh] at hgi2
            have e1 : decide ((n : Int) < (S : Int)) = false := decide_eq_false (by omega)
            have e1' : decide (n < S) = false := decide_eq_false hsh
            have HGT : Hid _ := hgi2
            have hSn : S ≤ n := by omega
            have hSni : (S : Int) ≤ (n : Int) := by omega
            clear hgi2 hsh
            go_wp2_with fail
            refine Calls.mono HP.out ?_
            rintro z w2 ⟨rfl, rfl⟩
            clear HP
            have HZS : Hid (a + zp = S) := hS
            go_wp2_with fail
            go_loop [20] (fun i => ∃ j : Nat, a + j ≤ S ∧ i = .int .i64 ((a : Int) + (j : Int)) ∧ Hid (∀ m, m < j → bs.getD (a + m) 0 = 0)) (fun i => S - (intOf i).toNat)
            case atStart => exact ⟨0, by omega, by go_num, fun m hm => by omega⟩
            case round =>
              obtain ⟨j, hj, rfl, HZ⟩ := hrel
              have hji : (a : Int) + (j : Int) ≤ (S : Int) := by omega
              by_cases hjl : a + j < S
              · have g1 : decide ((a : Int) + (j : Int) < (S : Int)) = true := decide_eq_true (by omega)
                have g1' : decide (a + j < S) = true := decide_eq_true hjl
                have xj := cell_chg (HCS.out (a + j) (by omega)) HC.out
                obtain ⟨X, hX⟩ : ∃ x, bs.getD (a + j) 0 = x := ⟨_, rfl⟩
                rw [hX] at xj
                by_cases hx0 : X = 0
                · subst hx0
                  have HZ2 : Hid (∀ m, m < j + 1 → bs.getD (a + m) 0 = 0) := fun m hm => by
                    by_cases e : m = j
                    · subst e; exact hX
                    · exact HZ.out m (by omega)
                  clear hX
                  go_wp2
                  go_round
                  case rel => exact ⟨j + 1, by omega, by go_num, HZ2⟩
                  case measure => simp [intOf]; omega
                · have hxi : ((X : Int) != 0) = true := by simp; omega
                  have HE : Hid (Ix23.getI bs = ([], 0, 2)) := by
                    show _ = _
                    rw [HGT.out, if_pos (zero_at (z := zp) (j := j) (by have := HZS.out; omega) (by rw [HBL.out, HZS.out]; exact hSn) (by rw [hX]; exact hx0))]
                  clear hX
                  go_wp2
                  go_ret3
                  exact ⟨_, (by rw [HE.out]; rfl), (by rw [HE.out]; exact World.ownsRow_nil _ _ _ _), HC.out⟩
              · have hjS : a + j = S := by omega
                have g1 : decide ((a : Int) + (j : Int) < (S : Int)) = false := decide_eq_false (by omega)
                have g1' : decide (a + j < S) = false := decide_eq_false hjl
                obtain rfl : j = zp := by have := HZS.out; omega
                have hgt := HGT.out
                rw [if_neg (zero_all (by rw [HBL.out, HZS.out]; exact hSn) HZ.out)] at hgt
                by_cases h4 : n < S + 4
                · have e2 : decide ((n : Int) < (S : Int) + 4) = true := decide_eq_true (by omega)
                  have e2' : decide (n < S + 4) = true := decide_eq_true h4
                  have HE : Hid (Ix23.getI bs = ([], 0, 1)) := by show _ = _; rw [hgt, if_pos h4]
                  clear hgt
                  go_wp2
                  go_ret3
                  exact ⟨_, (by rw [HE.out]; rfl), (by rw [HE.out]; exact World.ownsRow_nil _ _ _ _), HC.out⟩
                rw [if_neg h4] at hgt
                have e2 : decide ((n : Int) < (S : Int) + 4) = false := decide_eq_false (by omega)
                have e2' : decide (n < S + 4) = false := decide_eq_false h4
                obtain ⟨S4, hS4⟩ : ∃ x, S + 4 = x := ⟨_, rfl⟩
                have i2 : (S : Int) + 4 = (S4 : Int) := by omega
                rw [hS4] at hgt h4
                have hcutT : ∀ ww, (Instr.sliceAt 22 (.slice (some ⟨bb, off, none⟩) n c) (some (.int .i64 (S : Int))) (some (.int .i64 (S4 : Int))) none).run Tryd.prog ww = .ok (.slice (cutZ (some ⟨bb, off, none⟩) c S 1) 4 (c - S)) ww := fun ww => by
                  have h9 := run_cutZ_lh (some ⟨bb, off, none⟩) n c S S4 ww (by omega) (by omega)
                  rw [show S4 - S = 4 by omega] at h9
                  exact h9
                have hcutP : ∀ ww, (Instr.sliceAt 22 (.slice (some ⟨bb, off, none⟩) n c) none (some (.int .i64 (S : Int))) none).run Tryd.prog ww = .ok (.slice (some ⟨bb, off, none⟩) S c) ww := fun ww => run_cutZ_hi undBy elemBy sizeBy _ n c S ww (by omega)
                obtain ⟨T4, hT4⟩ : ∃ x, (bs.drop S).take 4 = x := ⟨_, rfl⟩
                obtain ⟨PR, hPR⟩ : ∃ x, bs.take S = x := ⟨_, rfl⟩
                have HT4 : Hid (Row8 wr (cutZ (some ⟨bb, off, none⟩) c S 1) 4 (c - S) (nums T4)) := by rw [← hT4]; exact row8_cutZ2 (Bk.row8_chg HB.out HC.out) hc (by omega)
                have HPR : Hid (Row8 wr (some ⟨bb, off, none⟩) S c (nums PR)) := by rw [← hPR]; exact row8_take (Bk.row8_chg HB.out HC.out) (by omega)
                have HDP : Hid (Rc.Dig PR) := by rw [← hPR]; exact dig_take HD.out _
                have HDT : Hid (Rc.Dig T4) := by rw [← hT4]; exact dig_take (dig_drop HD.out _) _
                have HSN : Hid (S ≤ n) := hSn
                have HSQ : Hid _ := str_neqH HDT.out (crc4_dig PR)
                rw [hT4, hPR] at hgt
                have HG9 : Hid _ := hgt
                clear hgt hT4 hPR HGT
                have hw127 : IntKind.i64.wrap (S4 : Int) = (S4 : Int) := w64i (by omega) (by omega)
                have hS4i : (S4 : Int) ≤ 17592186044510 := by omega
                go_upto_region 40 with fail
                refine wp_region_last (mk := fun u => #[_, _, _, _, _, _, _, _, _, _, _, _, _, _, _, _, _, _, _, _, _, _, _, _, _, _, _, _, _, _, _, _, _, _, _, _, _, _, _, _, _, _, _, _, _, _, _, _, _, _, _, _, _, _, _, _, _, _, _, _, _, _, _, _, _, _, _, _, _, _, _, _, _, _, _, _, _, _, _, _, _, _, _, _, _, _, _, _, _, _, _, _, _, _, _, _, _, _, _, _, _, _, _, _, _, _, _, _, _, _, _, _, _, _, _, _, _, _, _, _, _, _, _, _, _, _, u 126, u 127, u 128, u 129, u 130, u 131, u 132, u 133, u 134, u 135, u 136, _, _, _, _]) (F := fun slot vv ww => (look [(126, .val (.slice (some ⟨bb, off, none⟩) n c)), (127, .val (.int .i64 (S : Int))), (128, .val (.int .i64 (S : Int))), (129, .val (.int .i64 (S4 : Int))), (130, .val (.slice (cutZ (some ⟨bb, off, none⟩) c S 1) 4 (c - S))), (131, .val (.string (strOfNums (nums T4)))), (132, .val (.slice (some ⟨bb, off, none⟩) n c)), (133, .val (.int .i64 (S : Int))), (134, .val (.slice (some ⟨bb, off, none⟩) S c)), (135, .is (fun p ww => ∃ a, p = .slice a 4 4 ∧ Row8 ww a 4 4 (nums (crc4 PR)))), (136, .val (.string (strOfNums (nums (crc4 PR)))))] slot).holds vv ww) (fun _ => undef) rfl (by kernel_rfl) 11 _ rfl rfl (by kernel_rfl) ?_ (fun _ v w w' hc h => Fact.stays _ v w w' hc h) ?_ ?_
                · repeat (refine ⟨⟨_, rfl, fun _ _ => rfl⟩, ?_⟩)
                  exact trivial
                · refine ⟨?_, ?_, ?_, ?_, ?_, ?_, ?_, ?_, ?_, ?_, ?_, trivial⟩
                  · intro u w_ hc hd K hK -- 126
                    clear hd
                    go_simp
                    exact hK.out (.slice (some ⟨bb, off, none⟩) n c) w_ (Chg.refl _ _) rfl
                  · intro u w_ hc hd K hK -- 127
                    clear hd
                    go_simp
                    exact hK.out (.int .i64 (S : Int)) w_ (Chg.refl _ _) rfl
                  · intro u w_ hc hd K hK -- 128
                    clear hd
                    go_simp
                    exact hK.out (.int .i64 (S : Int)) w_ (Chg.refl _ _) rfl
                  · intro u w_ hc hd K hK -- 129
                    have h128 : (Fact.val (.int .i64 (S : Int))).holds (u 128) w_ := hd.get 2 (by kernel_rfl)
                    simp only [Fact.holds] at h128
                    clear hd
                    simp only [h128] at hK
                    go_simp
                    exact hK.out (.int .i64 (S4 : Int)) w_ (Chg.refl _ _) rfl
                  · intro u w_ hc hd K hK -- 130
                    have h126 : (Fact.val (.slice (some ⟨bb, off, none⟩) n c)).holds (u 126) w_ := hd.get 0 (by kernel_rfl)
                    simp only [Fact.holds] at h126
                    have h127 : (Fact.val (.int .i64 (S : Int))).holds (u 127) w_ := hd.get 1 (by kernel_rfl)
                    simp only [Fact.holds] at h127
                    have h129 : (Fact.val (.int .i64 (S4 : Int))).holds (u 129) w_ := hd.get 3 (by kernel_rfl)
                    simp only [Fact.holds] at h129
                    clear hd
                    simp only [h126, h127, h129] at hK
                    go_simp
                    exact hK.out (.slice (cutZ (some ⟨bb, off, none⟩) c S 1) 4 (c - S)) w_ (Chg.refl _ _) rfl
                  · intro u w_ hc hd K hK -- 131
                    have h130 : (Fact.val (.slice (cutZ (some ⟨bb, off, none⟩) c S 1) 4 (c - S))).holds (u 130) w_ := hd.get 4 (by kernel_rfl)
                    simp only [Fact.holds] at h130
                    clear hd
                    simp only [h130] at hK
                    have hcv := Bk.conv8_here (Bk.row8_chg HT4.out hc)
                    go_simp
                    exact hK.out _ w_ (Chg.refl _ _) rfl
                  · intro u w_ hc hd K hK -- 132
                    clear hd
                    go_simp
                    exact hK.out (.slice (some ⟨bb, off, none⟩) n c) w_ (Chg.refl _ _) rfl
                  · intro u w_ hc hd K hK -- 133
                    clear hd
                    go_simp
                    exact hK.out (.int .i64 (S : Int)) w_ (Chg.refl _ _) rfl
                  · intro u w_ hc hd K hK -- 134
                    have h132 : (Fact.val (.slice (some ⟨bb, off, none⟩) n c)).holds (u 132) w_ := hd.get 6 (by kernel_rfl)
                    simp only [Fact.holds] at h132
                    have h133 : (Fact.val (.int .i64 (S : Int))).holds (u 133) w_ := hd.get 7 (by kernel_rfl)
                    simp only [Fact.holds] at h133
                    clear hd
                    simp only [h132, h133] at hK
                    go_simp
                    exact hK.out (.slice (some ⟨bb, off, none⟩) S c) w_ (Chg.refl _ _) rfl
                  · intro u w_ hc hd K hK -- 135
                    have h134 : (Fact.val (.slice (some ⟨bb, off, none⟩) S c)).holds (u 134) w_ := hd.get 8 (by kernel_rfl)
                    simp only [Fact.holds] at h134
                    clear hd
                    simp only [h134] at hK
                    go_simp
                    refine Calls.mono (rsum23_any _ S c PR w_ (Bk.row8_chg HPR.out hc) HDP.out (by have := HSN.out; omega)) ?_
                    rintro z w2 ⟨oa, rfl, hov, c2⟩
                    unfold ByO at hov
                    rw [crc4_len] at hov
                    exact hK.out _ w2 c2 ⟨w2, ⟨oa, rfl, row8_own hov⟩, Chg.refl _ _⟩
                  · intro u w_ hc hd K hK -- 136
                    have h135 : (Fact.is (fun p ww => ∃ a, p = .slice a 4 4 ∧ Row8 ww a 4 4 (nums (crc4 PR)))).holds (u 135) w_ := hd.get 9 (by kernel_rfl)
                    obtain ⟨q135, h135, p135⟩ := h135
                    clear hd
                    obtain ⟨a9, e135, hr9⟩ := h135
                    simp only [e135] at hK ⊢
                    have hcv := Bk.conv8_here (Bk.row8_chg hr9 p135)
                    go_simp
                    exact hK.out _ w_ (Chg.refl _ _) rfl
                · intro u w7 hc hA K hK
                  have h131 : (Fact.val (.string (strOfNums (nums T4)))).holds (u 131) w7 := hA.at 131 (by kernel_rfl)
                  have h136 : (Fact.val (.string (strOfNums (nums (crc4 PR))))).holds (u 136) w7 := hA.at 136 (by kernel_rfl)
                  simp only [Fact.holds] at h131 h136
                  have HC7 : Hid (Chg (fun _ => False) w0 w7) := chg_then HC.out hc
                  have HO7 : Hid (RcO w7 w0.heap.size (.slice va k vc) acc) := by
                    have h9 := HO.out.new hc
                    rw [HAL.out] at h9
                    exact h9
                  clear hA hc hw127
                  simp only [h131, h136] at hK ⊢
                  clear h131 h136
                  go_simp
                  refine hK.out _ _ ?_
                  rw [HSQ.out]
                  by_cases k2 : T4 = crc4 PR
                  · have e9 : decide (T4 ≠ crc4 PR) = false := decide_eq_false (by simp [k2])
                    have HE : Hid (Ix23.getI bs = (acc, S4, 0)) := by show _ = _; rw [HG9.out, if_neg (by simp [k2])]
                    rw [e9]
                    clear k2 e9 HG9 HSQ
                    go_wp2
                    go_ret3
                    exact ⟨_, (by rw [HE.out]; rfl), (by rw [HE.out]; exact HO7.out), HC7.out⟩
                  · have e9 : decide (T4 ≠ crc4 PR) = true := decide_eq_true k2
                    have HE : Hid (Ix23.getI bs = ([], 0, 3)) := by show _ = _; rw [HG9.out, if_pos k2]
                    rw [e9]
                    clear k2 e9 HG9 HSQ
                    go_wp2
                    go_ret3
                    exact ⟨_, (by rw [HE.out]; rfl), (by rw [HE.out]; exact World.ownsRow_nil _ _ _ _), HC7.out⟩
      · have hne : (me != 0) = true := by simp [he]
        have HE : Hid (Ix23.getI bs = ([], 0, me)) := by show _ = _; rw [hgi, if_pos he]
        clear HGI h hd hbl hcs hpos hgi
        go_enter Tryd.func21, Tryd.ntmps21
        go_wp2_with fail
        refine Calls.mono HG0.out ?_
        rintro z w1 ⟨rfl, rfl⟩
        go_wp2
        go_ret3
        exact ⟨_, (by rw [HE.out]; rfl), (by rw [HE.out]; exact World.ownsRow_nil _ _ _ _), Chg.refl _ _⟩
    · have hzi : ((B0 : Int) != 0) = true := by simp; omega
      have HE : Hid (Ix23.getI bs = ([], 0, 2)) := by show _ = _; rw [HGI.out, if_neg hnn, hB0, if_pos hz]
      clear HGI h hd hbl hcs
      go_enter Tryd.func21, Tryd.ntmps21
      go_wp2
      go_ret3
      exact ⟨_, (by rw [HE.out]; rfl), (by rw [HE.out]; exact World.ownsRow_nil _ _ _ _), Chg.refl _ _⟩
end Go.Proofs.YtehfcfpbjenmjaaDoor
