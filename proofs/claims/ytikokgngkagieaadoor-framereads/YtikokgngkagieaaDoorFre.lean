/- Texts of bytes, the document's sum; of no statement by themselves. -/
import Derived.Test.YtikokgngkagieaaDoorFrb
import Derived.Laws.IdiomStrings
import Derived.Laws.Concat
import Derived.Laws.Strings2
namespace Go.Proofs.YtikokgngkagieaaDoor
open Go.RowKit
set_option linter.unusedVariables false
set_option linter.unusedSimpArgs false
/-- A text of these bytes. -/
def sN (xs : List Nat) : ByteArray := strOfNums (nums xs)
theorem sN_size (xs : List Nat) : (sN xs).size = xs.length := by rw [sN, strOfNums_size, nums_len]
theorem sN_app (a b : List Nat) : sN a ++ sN b = sN (a ++ b) := by
  apply ByteArray.ext
  simp [sN, strOfNums, nums]
theorem sN_cut (xs : List Nat) (a b : Nat) : (sN xs).extract a b = sN ((xs.drop a).take (b - a)) := by
  unfold sN strOfNums
  rw [ByteArray.extract_mk]
  simp [nums, List.map_take, List.map_drop]
theorem sN_eq {a b : List Nat} (ha : Rc.Dig a) (hb : Rc.Dig b) : ((sN a).toList == (sN b).toList) = decide (a = b) := by
  have h := str_neqH ha hb
  rw [show ((sN a).toList == (sN b).toList) = !(!((strOfNums (nums a)).toList == (strOfNums (nums b)).toList)) by rw [Bool.not_not]; rfl, h]
  by_cases e : a = b
  · rw [decide_eq_true e, decide_eq_false (by simpa using e)]; rfl
  · rw [decide_eq_false e, decide_eq_true (by simpa using e)]; rfl
theorem sN_neq {a b : List Nat} (ha : Rc.Dig a) (hb : Rc.Dig b) : ((sN a).toList != (sN b).toList) = decide (a ≠ b) := str_neqH ha hb
theorem conv_txt (w : World) (ns : List Nat) (hb : Rc.Dig ns) : ∃ cap w', (convert 9 22 (.string (sN ns))).run Tryd.prog w = .ok (.slice (some ⟨w.heap.size, 0, none⟩) ns.length cap) w' ∧ Row8 w' (some ⟨w.heap.size, 0, none⟩) ns.length cap (nums ns) ∧ ns.length ≤ cap ∧ Chg (fun _ => False) w w' := by
  have h := run_bytes_of_string (P := Tryd.prog) w 9 22 5 (sN ns) Tryd.underlying9 Tryd.underlying22 Tryd.underlying5
  rw [sN_size] at h
  refine ⟨_, _, h, ⟨nums_len _, .inr ⟨_, rfl, fun j u hu => ?_⟩⟩, grownCap_ge .., (Chg.refl _ w).drew.alloc _⟩
  rw [addk, Nat.zero_add]
  have e : w.heap.size = w.drew.heap.size := rfl
  rw [e, cell_of_row _ _ j _ _ _ (heap_alloc_last w.drew _)]
  have hj : j < ns.length := by simpa [nums] using (List.getElem?_eq_some_iff.1 hu).1
  have hjb := hb _ (List.getElem_mem hj)
  simp only [nums, List.map_map, List.getElem?_map, List.getElem?_eq_getElem hj, Option.map_some, Function.comp, Option.some.injEq] at hu
  subst hu
  unfold bytesRow
  rw [Array.getElem?_append_left (by simp [sN, strOfNums, nums, hj])]
  simp [sN, strOfNums, nums, hj, Nat.mod_eq_of_lt hjb]
theorem row8_lit24 (w : World) (l : List Nat) (n : Nat) (t : TypeId) (hn : l.length = n) (vs : Array Value) (hv : vs.toList = (nums l).map (Value.int .u8)) : Row8 (w.alloc (.cells vs t)) (some ⟨w.heap.size, 0, none⟩) n n (nums l) := by
  refine ⟨by rw [nums_len, hn], .inr ⟨_, rfl, fun j u hu => ?_⟩⟩
  rw [addk, Nat.zero_add]
  simp only [World.cell?, heap_alloc_last]
  rw [← hv] at hu
  simpa using hu
set_option maxHeartbeats 8000000 in
set_option maxRecDepth 100000 in
theorem rlow24_any (v : Nat) (w : World) (hv : v < 4294967296) : Calls Tryd.prog 32 #[.int .u64 (v : Int), .int .i64 4] w fun e w' => ∃ ov, e = .returned ov ∧ ByO w' w.heap.size ov (Cq.Crc.low v 4) ∧ Chg (fun _ => False) w w' := by
  obtain ⟨iu, hiu, hu0, hu1, hu2⟩ := info_parts info5u
  go_enter Tryd.func32, Tryd.ntmps32
  go_wp2_with fail
  go_loopw [0, 5, 6] (fun x b i wr => ∃ (k y : Nat) (ls : List Nat), k ≤ 4 ∧ y < 4294967296 ∧ x = .int .u64 (y : Int) ∧ i = .int .i64 (k : Int) ∧ Hid (ls.length = k) ∧ Hid (ls ++ Cq.Crc.low y (4 - k) = Cq.Crc.low v 4) ∧ Hid (ByO wr w.heap.size b ls) ∧ Hid (Chg (fun _ => False) w wr)) (fun _ _ i _ => 4 - (intOf i).toNat)
  case atStart => exact ⟨0, v, [], by omega, hv, rfl, rfl, rfl, rfl, byO_nil _ _, Chg.refl _ _⟩
  case round =>
    obtain ⟨k, y, ls, hk, hy, rfl, rfl, HL, HW, HO, HC⟩ := hrel
    obtain ⟨ba, bc, rfl⟩ := byO_form HO.out
    rw [HL.out]
    by_cases hlt : k < 4
    · obtain ⟨z, hz⟩ : ∃ z, y % 256 = z := ⟨_, rfl⟩
      obtain ⟨q, hq⟩ : ∃ q, y / 256 = q := ⟨_, rfl⟩
      have hz1 : (y : Int) % 256 = (z : Int) := by omega
      have hq1 : (y : Int) / 256 = (q : Int) := by omega
      have hz2 : z ≤ 255 := by omega
      have hq2 : q < 4294967296 := by omega
      have HW2 : Hid ((ls ++ [z]) ++ Cq.Crc.low q (4 - (k + 1)) = Cq.Crc.low v 4) := by
        show _ = _
        rw [← HW.out, show 4 - k = 4 - (k + 1) + 1 by omega, Cq.Crc.low, hz, hq]
        simp
      have HL2 : Hid ((ls ++ [z]).length = k + 1) := by show _ = _; rw [List.length_append, HL.out]; rfl
      have hown1 : (wr.alloc (.cells #[.int .u8 (z : Int)] 5)).ownsRow w.heap.size 5 1 (.slice ba k bc) k ((nums ls).map (Value.int .u8)) := by
        have h1 := HO.out.new (chg_one wr (.cells #[.int .u8 (z : Int)] 5))
        unfold ByO at h1
        rw [HL.out] at h1
        exact h1
      have hsrc1 := (row8_lit24 wr [z] 1 5 rfl #[.int .u8 (z : Int)] rfl).src
      have hone1 := oneB [z]
      have hB1 : w.heap.size ≤ (wr.alloc (.cells #[.int .u8 (z : Int)] 5)).heap.size := (chg_then HC.out (chg_one wr (.cells #[.int .u8 (z : Int)] 5))).size
      clear hz hq
      go_wp2_with (at_builtin; refine wpList_append_moved rfl _ _ 22 rfl w.heap.size 5 iu (.int .u8 0) 1 1 Tryd.underlying22 hiu hu0 hu1 hu2 rfl (by decide) _ k ((nums ls).map (Value.int .u8)) rfl (some ⟨wr.heap.size, 0, none⟩) 1 1 rfl ((nums [z]).map (Value.int .u8)) ?h1 ?h2 ?h3 ?m1 ?m2 ?m3 ?_)
      case h1 => exact hown1
      case h2 => exact hsrc1
      case h3 => exact hone1
      case m1 => unfold maxLen; omega
      case m2 => omega
      case m3 => exact hB1
      intro v2 w2 ho2 hg2 hm2
      have HC2 : Hid (Chg (fun _ => False) w w2) := (chg_then HC.out (chg_one wr (.cells #[.int .u8 (z : Int)] 5))).grown hg2 (fun j e => .inr ((hown1.lt j e).1))
      have HO2 : Hid (ByO w2 w.heap.size v2 (ls ++ [z])) := byO_app ho2
      clear ho2 hg2 hm2 hown1 hsrc1 hone1 hB1 HO
      go_wp2
      go_roundw
      case rel => exact ⟨k + 1, q, ls ++ [z], by omega, hq2, rfl, by go_num, HL2, HW2, HO2, HC2⟩
      case measure => simp [intOf]; omega
    · obtain rfl : k = 4 := by omega
      have HR : Hid (ByO wr w.heap.size (.slice ba 4 bc) (Cq.Crc.low v 4)) := by
        show ByO _ _ _ _
        have h1 := HW.out
        rw [show 4 - 4 = 0 from rfl, Cq.Crc.low, List.append_nil] at h1
        rw [← h1]
        have h2 := HO.out
        rw [HL.out] at h2
        exact h2
      clear HO HW
      go_wp2
      go_ret
      exact ⟨_, rfl, HR.out, HC.out⟩
set_option maxHeartbeats 8000000 in
set_option maxRecDepth 100000 in
theorem rsum24_any (bs : List Nat) (w : World) (hd : Rc.Dig bs) (hl : bs.length ≤ 1024) : Calls Tryd.prog 31 #[.string (sN bs)] w fun e w' => e = .returned (.string (sN (crc4 bs))) ∧ Chg (fun _ => False) w w' := by
  obtain ⟨cap, w1, hcv, hrow, hcap, c1⟩ := conv_txt w bs hd
  have HM : Hid _ := Cq.refmore32_any 0 (some ⟨w.heap.size, 0, none⟩) bs.length cap bs w1 (by decide) hrow hd (by omega)
  have HV : Hid _ := rlow24_any (Cq.Crc.more Cq.Crc.P32 32 0 bs) w1 (more_dig hd)
  have HC1 : Hid (Chg (fun _ => False) w w1) := c1
  generalize sN bs = S at *
  clear hrow hd hl hcap c1
  go_enter Tryd.func31, Tryd.ntmps31
  go_wp2_with fail
  refine Calls.mono HM.out ?_
  rintro z w2 ⟨rfl, rfl⟩
  go_wp2_with fail
  refine Calls.mono HV.out ?_
  rintro z w2 ⟨ov, rfl, ho, c2⟩
  have HC2 : Hid (Chg (fun _ => False) w w2) := chg_then HC1.out c2
  obtain ⟨oa, oc, rfl⟩ := byO_form ho
  have hl4 : (Cq.Crc.low (Cq.Crc.more Cq.Crc.P32 32 0 bs) 4).length = 4 := low_len _ _
  rw [hl4] at ho ⊢
  have hcv2 : (convert 22 9 (.slice oa 4 oc)).run Tryd.prog w2 = .ok (.string (sN (crc4 bs))) w2 := Bk.conv8_here (byO_row ho).1
  clear ho c2 hcv HM HV HC1
  go_wp2
  go_ret
  exact ⟨rfl, HC2.out⟩
end Go.Proofs.YtikokgngkagieaaDoor
