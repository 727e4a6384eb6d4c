/- The room's sizes and its zeros; of no statement by themselves. -/
import Derived.Test.YtkncbanodpfccaaDoorHec
namespace Go.Proofs.YtkncbanodpfccaaDoor
open Go.RowKit
open St12
set_option linter.unusedVariables false
set_option linter.unusedSimpArgs false
set_option maxHeartbeats 4000000 in
set_option maxRecDepth 100000 in
theorem size21_any (B a g off : Nat) (rs : List Nat) (least : Int) (w0 : World) (h : Wire.Rd B w0 a g (nums rs) off) (hd : Rc.Dig rs) : Calls Tryd.prog 49 #[rmv a, .int .i64 least] w0 fun e w' => (((getN (rs.drop off)).2.2 = 0 ∧ least ≤ ((getN (rs.drop off)).1 : Int) ∧ e = .returned (.int .i64 ((getN (rs.drop off)).1 : Int)) ∧ Wire.Rd B w' a g (nums rs) (off + (getN (rs.drop off)).2.1)) ∨ (((getN (rs.drop off)).2.2 ≠ 0 ∨ ((getN (rs.drop off)).1 : Int) < least) ∧ e = .panicked (gaveH 2))) ∧ Chg (fun z => z = a) w0 w' := by
  have HCA : Hid (Chg (fun _ => False) w0 (w0.alloc (.cells #[.pointer (some ⟨a, 0, none⟩)] 63))) := chg_one w0 _
  have HW : Hid _ := wholeN_any B a g off rs (w0.alloc (.cells #[.pointer (some ⟨a, 0, none⟩)] 63)) (rd_alloc h _) hd
  have HB : Hid ((getN (rs.drop off)).2.2 = 0 → (getN (rs.drop off)).1 ≤ 9223372036854775807) := fun e => (getN_back (dig_drop hd off) e).2
  have x0 : (w0.alloc (.cells #[.pointer (some ⟨a, 0, none⟩)] 63)).cell? ⟨w0.heap.size, 0, none⟩ = some (.pointer (some ⟨a, 0, none⟩)) := cell00 (heap_alloc_last w0 _)
  clear h hd
  obtain ⟨q, hq⟩ : ∃ q, getN (rs.drop off) = q := ⟨_, rfl⟩
  rw [hq] at HW HB ⊢
  clear hq
  obtain ⟨v, n, e0⟩ := q
  simp only at HW HB ⊢
  unfold rmv at HW ⊢
  go_enter Tryd.func49, Tryd.ntmps49
  go_upto_region 1 with fail
  generalize w0.alloc (.cells #[.pointer (some ⟨a, 0, none⟩)] 63) = w1 at *
  go_wp2_with fail
  refine Calls.mono HW.out ?_
  rintro z w2 ⟨⟨he, rfl, hr⟩ | ⟨he, rfl⟩, hc⟩
  · have hv := HB.out he
    have HE : Hid (e0 = 0 ∧ Wire.Rd B w2 a g (nums rs) (off + n)) := ⟨he, hr⟩
    have HC : Hid (Chg (fun k => k = a) w0 w2) := chg_at HCA.out hc
    have HV : Hid (v ≤ 9223372036854775807) := hv
    have hw8 : IntKind.i64.wrap (v : Int) = (v : Int) := by simp [IntKind.wrap, IntKind.signed, IntKind.bits]; omega
    clear HW HB HCA x0 he hr hc
    by_cases hls : (v : Int) < least
    · have hdl : decide ((v : Int) < least) = true := decide_eq_true hls
      have HL : Hid ((v : Int) < least) := hls
      go_wp2
      exact ⟨rfl, .inr ⟨.inr HL.out, rfl⟩, HC.out⟩
    · have hdl : decide ((v : Int) < least) = false := decide_eq_false hls
      have HL : Hid (least ≤ (v : Int)) := Int.not_lt.1 hls
      go_wp2
      go_ret
      exact ⟨.inl ⟨HE.out.1, HL.out, by first | rfl | (rw [hw8]) | go_num, HE.out.2⟩, HC.out⟩
  · exact ⟨rfl, .inr ⟨.inl he, rfl⟩, chg_at HCA.out hc⟩
/-- Where a reader stands. -/
def plR (w : World) (a : Nat) : Nat := match w.cell? ⟨a, 0, none⟩ with | some (.int _ n) => n.toNat | _ => 0
theorem plR_is {B : Nat} {w : World} {a g off : Nat} {xs : List Int} (h : Wire.Rd B w a g xs off) : plR w a = off := by
  unfold plR
  rw [cell0 h.blk]
  rfl
theorem drop_zero {rs : List Nat} {off m : Nat} (h : ∀ j, off ≤ j → j < m → rs.getD j 0 = 0) (hm : rs.length ≤ m) : ∀ x ∈ rs.drop off, x = 0 := by
  intro x hx
  obtain ⟨k, hk, rfl⟩ := List.mem_iff_getElem.1 hx
  rw [List.length_drop] at hk
  have := h (off + k) (by omega) (by omega)
  rw [List.getD_eq_getElem?_getD, List.getElem?_eq_getElem (by omega)] at this
  rw [List.getElem_drop]
  exact this
theorem drop_some {rs : List Nat} {off m : Nat} (h : off ≤ m) (hm : m < rs.length) (hx : rs.getD m 0 ≠ 0) : ∃ x ∈ rs.drop off, x ≠ 0 := by
  refine ⟨rs.getD m 0, ?_, hx⟩
  rw [List.getD_eq_getElem?_getD, List.getElem?_eq_getElem hm]
  simp only [Option.getD_some]
  refine List.mem_iff_getElem.2 ⟨m - off, by rw [List.length_drop]; omega, ?_⟩
  rw [List.getElem_drop]
  congr 1
  omega
set_option maxHeartbeats 8000000 in
set_option maxRecDepth 100000 in
theorem zeros21_any (B a g off : Nat) (rs : List Nat) (w0 : World) (h : Wire.Rd B w0 a g (nums rs) off) (hd : Rc.Dig rs) : Calls Tryd.prog 52 #[rmv a] w0 fun e w' => (((∀ x ∈ rs.drop off, x = 0) ∧ e = .returned (.tuple #[])) ∨ ((∃ x ∈ rs.drop off, x ≠ 0) ∧ e = .panicked (gaveH 4))) ∧ Chg (fun z => z = a) w0 w' := by
  have bA := heap_alloc_last w0 (.cells #[.pointer (some ⟨a, 0, none⟩)] 63)
  have HST : Hid (Wire.Rd B (w0.alloc (.cells #[.pointer (some ⟨a, 0, none⟩)] 63)) a g (nums rs) off ∧ (w0.alloc (.cells #[.pointer (some ⟨a, 0, none⟩)] 63)).heap[w0.heap.size]? = some (.cells #[.pointer (some ⟨a, 0, none⟩)] 63 (0, 0)) ∧ Chg (fun z => z = a) w0 (w0.alloc (.cells #[.pointer (some ⟨a, 0, none⟩)] 63))) := ⟨rd_alloc h _, bA, (chg_one w0 _).mono (fun _ f => f.elim)⟩
  have HG : Hid (a < w0.heap.size) := h.lt.1
  have HD : Hid (Rc.Dig rs) := hd
  have HLE : Hid (off ≤ rs.length ∧ rs.length ≤ 140737488355328) := ⟨by have := h.le; rwa [nums_len] at this, by have := h.len; rwa [nums_len] at this⟩
  unfold rmv
  clear h hd bA
  go_enter Tryd.func52, Tryd.ntmps52
  go_upto_region 1 with fail
  generalize w0.alloc (.cells #[.pointer (some ⟨a, 0, none⟩)] 63) = w1 at *
  obtain ⟨N, hN⟩ : ∃ N, w0.heap.size = N := ⟨_, rfl⟩
  rw [hN] at HST HG
  try rw [hN]
  have HN : Hid (w0.heap.size = N) := hN
  clear hN
  go_loopw [] (fun wr => ∃ m, off ≤ m ∧ m ≤ rs.length ∧ Hid (Wire.Rd B wr a g (nums rs) m ∧ wr.heap[N]? = some (.cells #[.pointer (some ⟨a, 0, none⟩)] 63 (0, 0)) ∧ Chg (fun z => z = a) w0 wr ∧ ∀ j, off ≤ j → j < m → rs.getD j 0 = 0)) (fun wr => rs.length - plR wr a)
  case atStart => exact ⟨off, Nat.le_refl _, HLE.out.1, HST.out.1, HST.out.2.1, HST.out.2.2, fun j h1 h2 => by omega⟩
  case round =>
    obtain ⟨m, hm1, hm2, HI⟩ := hrel
    have hx0 : wr.cell? ⟨N, 0, none⟩ = some (.pointer (some ⟨a, 0, none⟩)) := cell00 HI.out.2.1
    have HL : Hid _ := Wire.left_any B a g m (nums rs) wr HI.out.1
    have HM : Hid (off ≤ m ∧ m ≤ rs.length) := ⟨hm1, hm2⟩
    have HPL : Hid (plR wr a = m) := plR_is HI.out.1
    have hl9 := HLE.out.2
    rw [nums_len] at HL
    obtain ⟨d, hdd⟩ : ∃ d : Int, (rs.length : Int) - (m : Int) = d := ⟨_, rfl⟩
    rw [hdd] at HL
    by_cases hd0 : 0 < d
    rotate_left
    · have hd1 : decide (0 < d) = false := decide_eq_false hd0
      have hd2 : decide (d > 0) = false := decide_eq_false hd0
      have HE : Hid (rs.length ≤ m) := by show _ ≤ _; omega
      clear hm1 hm2 hdd hl9
      go_wp2_with fail
      refine Calls.mono HL.out ?_
      rintro z w2 ⟨rfl, k, rfl⟩
      go_wp2
      go_end0
      exact ⟨.inl ⟨drop_zero HI.out.2.2.2 HE.out, rfl⟩, HI.out.2.2.1.trans (chg_drewN _ _) (fun _ e => e.elim)⟩
    · have hd1 : decide (0 < d) = true := decide_eq_true hd0
      have hd2 : decide (d > 0) = true := decide_eq_true hd0
      have HK : Hid (m < rs.length) := by show _ < _; omega
      have hxb := dig_at HD.out m
      have hat : (nums rs).getD m 0 = ((rs.getD m 0 : Nat) : Int) := by have := numsR_at (rs := rs) (off := 0) (k := m) (bs := rs) rfl; rwa [Nat.zero_add] at this
      obtain ⟨x, hx⟩ : ∃ x, rs.getD m 0 = x := ⟨_, rfl⟩
      rw [hx] at hxb hat
      have HXB : Hid (rs.getD m 0 = x) := hx
      have hxi : (x : Int) ≤ 255 := by omega
      have hx00 : 0 ≤ (x : Int) := Int.natCast_nonneg x
      have HNX : Hid (∀ w2, Wire.Rd B w2 a g (nums rs) m → Calls Tryd.prog 69 #[rmv a] w2 fun e w' => e = .returned (.int .u8 (x : Int)) ∧ Wire.Rd B w' a g (nums rs) (m + 1) ∧ Chg (fun k => k = a) w2 w') := fun w2 h2 => next21_ok B a g m (nums rs) (x : Int) w2 h2 (by rw [nums_len]; exact HK.out) hat hx00 hxi
      unfold rmv at HNX
      clear hm1 hm2 hdd hl9 hat hx hxb hd0
      go_wp2_with fail
      refine Calls.mono HL.out ?_
      rintro z w2 ⟨rfl, k, rfl⟩
      have HR2 : Hid (Wire.Rd B (wr.drewN k) a g (nums rs) m) := HI.out.1.chg (chg_drewN _ _)
      have hx2 : (wr.drewN k).cell? ⟨N, 0, none⟩ = some (.pointer (some ⟨a, 0, none⟩)) := cell00 HI.out.2.1
      have hb2 : (wr.drewN k).heap[N]? = some (.cells #[.pointer (some ⟨a, 0, none⟩)] 63 (0, 0)) := HI.out.2.1
      have HW2 : Hid (Chg (fun z => z = a) w0 (wr.drewN k) ∧ ∀ j, off ≤ j → j < m → rs.getD j 0 = 0) := ⟨HI.out.2.2.1.trans (chg_drewN _ _) (fun _ e => e.elim), HI.out.2.2.2⟩
      have HB2 : Hid _ := hb2
      clear HL hb2 HI hx0
      generalize wr.drewN k = w2 at *
      go_wp2_with fail
      refine (HNX.out _ HR2.out).mono ?_
      rintro z w3 ⟨rfl, hr3, hc3⟩
      have HR3 : Hid (Wire.Rd B w3 a g (nums rs) (m + 1)) := hr3
      have HC3 : Hid (Chg (fun z => z = a) w0 w3) := HW2.out.1.trans hc3 (fun _ e => .inl e)
      have HB3 : Hid (w3.heap[N]? = some (.cells #[.pointer (some ⟨a, 0, none⟩)] 63 (0, 0))) := blk_keep HB2.out hc3 (fun e => by have := HG.out; omega)
      clear hr3 hc3 HNX HR2
      by_cases hxz : (x : Int) = 0
      · have hz1 : decide ((x : Int) = 0) = true := decide_eq_true hxz
        have hz2 : ((x : Int) == 0) = true := by simp [hxz]
        have hz3 : decide ((x : Int) ≠ 0) = false := by simp [hxz]
        have HXZ : Hid (x = 0) := by show _ = _; omega
        clear hxz
        go_wp2
        refine ⟨⟨m + 1, by have := HM.out; omega, HK.out, HR3.out, HB3.out, HC3.out, fun j h1 h2 => ?_⟩, ?_⟩
        · by_cases hj : j < m
          · exact HW2.out.2 j h1 hj
          · rw [show j = m by omega, HXB.out, HXZ.out]
        · rw [plR_is HR3.out, HPL.out]
          have := HK.out
          have := HM.out
          omega
      · have hz1 : decide ((x : Int) = 0) = false := decide_eq_false hxz
        have hz2 : ((x : Int) == 0) = false := by simpa using hxz
        have hz3 : decide ((x : Int) ≠ 0) = true := by simpa using hxz
        have HXZ : Hid (x ≠ 0) := by show _ ≠ _; omega
        clear hxz
        go_wp2
        exact ⟨rfl, .inr ⟨drop_some HM.out.1 HK.out (by rw [HXB.out]; exact HXZ.out), rfl⟩, HC3.out⟩
end Go.Proofs.YtkncbanodpfccaaDoor
