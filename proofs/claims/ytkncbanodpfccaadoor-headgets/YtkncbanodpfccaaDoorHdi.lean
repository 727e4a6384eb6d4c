/- The document's sum and its Put of headers; of no statement by themselves. -/
import Derived.Test.YtkncbanodpfccaaDoorHde
import Derived.Test.YtkncbanodpfccaaDoorCrr
namespace Go.Proofs.YtkncbanodpfccaaDoor
open Go.RowKit
open St12
set_option linter.unusedVariables false
set_option linter.unusedSimpArgs false
set_option maxHeartbeats 8000000 in
set_option maxRecDepth 100000 in
theorem rlow_any (v : Nat) (w : World) (hv : v < 4294967296) : Calls Tryd.prog 55 #[.int .u64 (v : Int), .int .i64 4] w fun e w' => ∃ ov, e = .returned ov ∧ ByO w' w.heap.size ov (Cq.Crc.low v 4) ∧ Chg (fun _ => False) w w' := by
  obtain ⟨iu, hiu, hu0, hu1, hu2⟩ := info_parts info5u
  go_enter Tryd.func55, Tryd.ntmps55
  go_wp2_with fail
  go_loopw [0, 5, 6] (fun x b i wr => ∃ (k y : Nat) (ls : List Nat), k ≤ 4 ∧ y < 4294967296 ∧ x = .int .u64 (y : Int) ∧ i = .int .i64 (k : Int) ∧ Hid (ls.length = k) ∧ Hid (ls ++ Cq.Crc.low y (4 - k) = Cq.Crc.low v 4) ∧ Hid (ByO wr w.heap.size b ls) ∧ Hid (Chg (fun _ => False) w wr)) (fun _ _ i _ => 4 - (intOf i).toNat)
  case atStart => exact ⟨0, v, [], by omega, hv, rfl, rfl, rfl, rfl, byO_nil _ _, Chg.refl _ _⟩
  case round =>
    obtain ⟨k, y, ls, hk, hy, rfl, rfl, HL, HW, HO, HC⟩ := hrel
    obtain ⟨ba, bc, rfl⟩ := byO_form HO.out
    rw [HL.out]
    by_cases hlt : k < 4
    · obtain ⟨z, hz⟩ : ∃ z, y % 256 = z := ⟨_, rfl⟩
      obtain ⟨q, hq⟩ : ∃ q, y / 256 = q := ⟨_, rfl⟩
      have hz1 : (y : Int) % 256 = (z : Int) := by omega
      have hq1 : (y : Int) / 256 = (q : Int) := by omega
      have hz2 : z ≤ 255 := by omega
      have hq2 : q < 4294967296 := by omega
      have HW2 : Hid ((ls ++ [z]) ++ Cq.Crc.low q (4 - (k + 1)) = Cq.Crc.low v 4) := by
        show _ = _
        rw [← HW.out, show 4 - k = 4 - (k + 1) + 1 by omega, Cq.Crc.low, hz, hq]
        simp
      have HL2 : Hid ((ls ++ [z]).length = k + 1) := by show _ = _; rw [List.length_append, HL.out]; rfl
      have hown1 : (wr.alloc (.cells #[.int .u8 (z : Int)] 5)).ownsRow w.heap.size 5 1 (.slice ba k bc) k ((nums ls).map (Value.int .u8)) := by
        have h1 := HO.out.new (chg_one wr (.cells #[.int .u8 (z : Int)] 5))
        unfold ByO at h1
        rw [HL.out] at h1
        exact h1
      have hsrc1 := (row8_litH wr [z] 1 5 rfl #[.int .u8 (z : Int)] rfl).src
      have hone1 := oneB [z]
      have hB1 : w.heap.size ≤ (wr.alloc (.cells #[.int .u8 (z : Int)] 5)).heap.size := (chg_then HC.out (chg_one wr (.cells #[.int .u8 (z : Int)] 5))).size
      clear hz hq
      go_wp2_with (at_builtin; refine wpList_append_moved rfl _ _ 25 rfl w.heap.size 5 iu (.int .u8 0) 1 1 Tryd.underlying25 hiu hu0 hu1 hu2 rfl (by decide) _ k ((nums ls).map (Value.int .u8)) rfl (some ⟨wr.heap.size, 0, none⟩) 1 1 rfl ((nums [z]).map (Value.int .u8)) ?h1 ?h2 ?h3 ?m1 ?m2 ?m3 ?_)
      case h1 => exact hown1
      case h2 => exact hsrc1
      case h3 => exact hone1
      case m1 => unfold maxLen; omega
      case m2 => omega
      case m3 => exact hB1
      intro v2 w2 ho2 hg2 hm2
      have HC2 : Hid (Chg (fun _ => False) w w2) := (chg_then HC.out (chg_one wr (.cells #[.int .u8 (z : Int)] 5))).grown hg2 (fun j e => .inr ((hown1.lt j e).1))
      have HO2 : Hid (ByO w2 w.heap.size v2 (ls ++ [z])) := byO_app ho2
      clear ho2 hg2 hm2 hown1 hsrc1 hone1 hB1 HO
      go_wp2
      go_roundw
      case rel => exact ⟨k + 1, q, ls ++ [z], by omega, hq2, rfl, by go_num, HL2, HW2, HO2, HC2⟩
      case measure => simp [intOf]; omega
    · obtain rfl : k = 4 := by omega
      have HR : Hid (ByO wr w.heap.size (.slice ba 4 bc) (Cq.Crc.low v 4)) := by
        show ByO _ _ _ _
        have h1 := HW.out
        rw [show 4 - 4 = 0 from rfl, Cq.Crc.low, List.append_nil] at h1
        rw [← h1]
        have h2 := HO.out
        rw [HL.out] at h2
        exact h2
      clear HO HW
      go_wp2
      go_ret
      exact ⟨_, rfl, HR.out, HC.out⟩
set_option maxHeartbeats 8000000 in
set_option maxRecDepth 100000 in
theorem rsum_any (ad : Option Addr) (n c : Nat) (bs : List Nat) (w : World) (h : Row8 w ad n c (nums bs)) (hd : Rc.Dig bs) (hl : n ≤ 140737488355328) : Calls Tryd.prog 33 #[.slice ad n c] w fun e w' => ∃ ov, e = .returned ov ∧ ByO w' w.heap.size ov (crc4 bs) ∧ Chg (fun _ => False) w w' := by
  have HM : Hid _ := Cq.refmore32_any 0 ad n c bs w (by decide) h hd hl
  have HV : Hid _ := rlow_any (Cq.Crc.more Cq.Crc.P32 32 0 bs) w (more_dig hd)
  clear h hd
  go_enter Tryd.func33, Tryd.ntmps33
  go_wp2_with fail
  refine Calls.mono HM.out ?_
  rintro z w1 ⟨rfl, rfl⟩
  go_wp2_with fail
  refine Calls.mono HV.out ?_
  rintro z w2 ⟨ov, rfl, ho, c2⟩
  have HO : Hid (ByO w2 w.heap.size ov (crc4 bs)) := ho
  have HC : Hid (Chg (fun _ => False) w w2) := c2
  clear ho c2
  obtain ⟨oa, oc, rfl⟩ := byO_form HO.out
  go_wp2
  go_ret
  exact ⟨_, rfl, HO.out, HC.out⟩
end Go.Proofs.YtkncbanodpfccaaDoor
