/- The document's own Put and Get of filters; of no statement by themselves. -/
import Derived.Test.YtkncbanodpfccaaDoorBoundD
import Derived.BigQuiet
import Derived.BigRegion
import Derived.Deep.QuietTactic
namespace Go.Proofs.YtkncbanodpfccaaDoor
open Go.RowKit
open St12
set_option linter.unusedVariables false
set_option linter.unusedSimpArgs false
theorem cells8_vbn (v : Nat) : Vint.cells8 (Vint.vb (v : Int)) = (nums (vbn v)).map (Value.int .u8) := by rw [nums_vbn]; rfl
/-- The document's number's bytes, of one's own. -/
theorem rvput_any (v : Nat) (w : World) (h : v ≤ 9223372036854775807) : Calls Tryd.prog 31 #[.int .u64 (v : Int)] w fun e w' => ∃ ad c, e = .returned (.tuple #[.slice ad (vbn v).length c, .int .i64 0]) ∧ w'.ownsRow w.heap.size 5 1 (.slice ad (vbn v).length c) (vbn v).length ((nums (vbn v)).map (Value.int .u8)) ∧ Chg (fun _ => False) w w' := by
  refine (Vint.refPut_any (v : Int) w (by omega) (by omega)).mono fun e w' ⟨p, he, ho, hc⟩ => ?_
  rw [cells8_vbn, ← vbn_len] at ho
  obtain ⟨ad, c, rfl⟩ := form1 ho
  exact ⟨ad, c, he, ho, hc⟩
set_option maxHeartbeats 8000000 in
set_option maxRecDepth 100000 in
theorem rput20_any (id : Nat) (a : Option Addr) (n c : Nat) (bs : List Nat) (w0 : World) (h : (⟨id, a, n, c, bs⟩ : FlV).ok w0) : Calls Tryd.prog 32 #[.agg #[.int .u64 (id : Int), .slice a n c]] w0 fun e w' => ∃ ov, e = .returned (.tuple #[ov, .int .i64 (Cn20.putF ⟨id, bs⟩).2]) ∧ ByO w' w0.heap.size ov (Cn20.putF ⟨id, bs⟩).1 ∧ Chg (fun _ => False) w0 w' := by
  obtain ⟨iu, hiu, hu0, hu1, hu2⟩ := info_parts info5u
  have HO : Hid ((⟨id, a, n, c, bs⟩ : FlV).ok w0) := h
  have HBL : Hid (bs.length = n) := h.len
  have hn : (n : Int) ≤ 140737488351232 := by have := h.lim; simp only at this; omega
  have HV : Hid (∀ (v : Nat) (w : World), v ≤ 9223372036854775807 → Calls Tryd.prog 31 #[.int .u64 (v : Int)] w fun e w' => ∃ ad c, e = .returned (.tuple #[.slice ad (vbn v).length c, .int .i64 0]) ∧ w'.ownsRow w.heap.size 5 1 (.slice ad (vbn v).length c) (vbn v).length ((nums (vbn v)).map (Value.int .u8)) ∧ Chg (fun _ => False) w w') := fun v w hv => rvput_any v w hv
  obtain ⟨y, hy⟩ : ∃ y : Int, (id : Int) = y := ⟨_, rfl⟩
  have HY : Hid ((id : Int) = y) := hy
  rw [hy]
  have cA := chg_one w0 (.cells #[.int .u64 y, .slice a n c] 54)
  have bA := heap_alloc_last w0 (.cells #[.int .u64 y, .slice a n c] 54)
  have m0 : (w0.alloc (.cells #[.int .u64 y, .slice a n c] 54)).cell? ⟨w0.heap.size, 0, none⟩ = some (.int .u64 y) := cell0 bA
  have HBA : Hid ((w0.alloc (.cells #[.int .u64 y, .slice a n c] 54)).heap[w0.heap.size]? = some (.cells #[.int .u64 y, .slice a n c] 54 (0, 0))) := bA
  have HCA : Hid (Chg (fun _ => False) w0 (w0.alloc (.cells #[.int .u64 y, .slice a n c] 54))) := cA
  clear h cA bA
  by_cases hbig : 9223372036854775807 < id
  · have hno := Vint.refPut_no y (w0.alloc (.cells #[.int .u64 y, .slice a n c] 54)) (by omega)
    have HE : Hid (Cn20.putF ⟨id, bs⟩ = ([], 7)) := by show _ = _; unfold Cn20.putF; rw [if_pos (by exact hbig)]
    clear hbig hy
    go_enter Tryd.func32, Tryd.ntmps32
    go_wp2_with fail
    refine Calls.mono hno ?_
    rintro z w1 ⟨rfl, rfl⟩
    go_wp2
    go_ret2
    exact ⟨_, by rw [HE.out]; rfl, by rw [HE.out]; exact byO_nil _ _, HCA.out⟩
  · have HE : Hid (Cn20.putF ⟨id, bs⟩ = (vbn id ++ vbn n ++ bs, 0)) := by show _ = _; rw [Cn20.put_ok (by show id ≤ _; omega), HBL.out]
    have HV1 : Hid _ := HV.out id (w0.alloc (.cells #[.int .u64 y, .slice a n c] 54)) (by omega)
    rw [hy] at HV1
    have hl1 := vbn_le id
    have hl2 := vbn_le n
    obtain ⟨L1, hL1⟩ : ∃ L, (vbn id).length = L := ⟨_, rfl⟩
    obtain ⟨L2, hL2⟩ : ∃ L, (vbn n).length = L := ⟨_, rfl⟩
    rw [hL1] at HV1 hl1
    rw [hL2] at hl2
    have HL1 : Hid ((vbn id).length = L1) := hL1
    have HL2 : Hid ((vbn n).length = L2) := hL2
    have hw : IntKind.u64.wrap (n : Int) = (n : Int) := by simp [IntKind.wrap, IntKind.signed, IntKind.bits]; omega
    have hlA : (L1 : Int) ≤ 9 := by omega
    have hlB : (L2 : Int) ≤ 9 := by omega
    clear hbig hy hL1 hL2
    go_enter Tryd.func32, Tryd.ntmps32
    go_wp2_with fail
    refine Calls.mono HV1.out ?_
    rintro z w1 ⟨a1, d1, rfl, ho1, c1⟩
    have m1 : w1.cell? ⟨w0.heap.size, 1, none⟩ = some (.slice a n c) := cell_chg (cell1 HBA.out) c1
    have HV2 : Hid _ := HV.out n w1 (by omega)
    rw [HL2.out] at HV2
    rw [World.size_alloc] at ho1
    have HO1 : Hid (w1.ownsRow (w0.heap.size + 1) 5 1 (.slice a1 L1 d1) L1 ((nums (vbn id)).map (Value.int .u8))) := ho1
    have HC1 : Hid (Chg (fun _ => False) w0 w1) := chg_then HCA.out c1
    have HB1 : Hid (w1.heap[w0.heap.size]? = some (.cells #[.int .u64 y, .slice a n c] 54 (0, 0))) := blk_keep HBA.out c1 (fun f => f)
    clear m0 ho1 c1 HBA HCA HV1
    go_wp2_with fail
    refine Calls.mono HV2.out ?_
    rintro z w2 ⟨a2, d2, rfl, ho2, c2⟩
    have hown := ownsRow_keep HO1.out c2 (fun _ _ f => f)
    have hsrc := (row8_own (xs := nums (vbn n)) ho2).src
    have hone := oneB (vbn n)
    have hB2 : w0.heap.size + 1 ≤ w2.heap.size := by
      have h1 := c2.size
      have h2 := lt_of_blk HB1.out
      omega
    have HC2 : Hid (Chg (fun _ => False) w1 w2) := c2
    have HLT : Hid (∀ g, (Value.slice a1 L1 d1).ownBlock = some g → w0.heap.size ≤ g ∧ g ≠ w0.heap.size) := fun g e => by
      have h1 := (HO1.out.lt g e).1
      omega
    clear ho2 c2 m1 HV2
    go_upto_region 5 with fail
    go_wp2_with (at_builtin; refine wpList_append_moved rfl _ _ 25 rfl (w0.heap.size + 1) 5 iu (.int .u8 0) 1 1 Tryd.underlying25 hiu hu0 hu1 hu2 rfl (by decide) _ L1 ((nums (vbn id)).map (Value.int .u8)) rfl a2 L2 d2 rfl ((nums (vbn n)).map (Value.int .u8)) ?h1 ?h2 ?h3 ?m1 ?m2 ?m3 ?_)
    case h1 => exact hown
    case h2 => exact hsrc
    case h3 => exact hone
    case m1 => unfold maxLen; omega
    case m2 => omega
    case m3 => exact hB2
    intro v4 w4 ho4 hg4 hm4
    have hC4 : Chg (fun g => (Value.slice a1 L1 d1).ownBlock = some g) w2 w4 := (Chg.refl _ w2).grown hg4 (fun g e => .inl e)
    have b4 := blk_keep (blk_keep HB1.out HC2.out (fun f => f)) hC4 (fun e => (HLT.out _ e).2 rfl)
    have m4 : w4.cell? ⟨w0.heap.size, 1, none⟩ = some (.slice a n c) := cell1 b4
    have hCC : Chg (fun _ => False) w0 w4 := (chg_then HC1.out HC2.out).trans hC4 (fun g e => .inr (HLT.out g e).1)
    have hrow := (Bk.row8_chg HO.out.row hCC).src
    simp only at hrow
    obtain ⟨a4, d4, rfl⟩ := form1 ho4
    have hone4 := oneB bs
    have hB4 : w0.heap.size + 1 ≤ w4.heap.size := Nat.le_trans hB2 hC4.size
    have hown4 := ho4
    have HCC : Hid (Chg (fun _ => False) w0 w4) := hCC
    have HLT4 : Hid (∀ g, (Value.slice a4 (L1 + L2) d4).ownBlock = some g → w0.heap.size ≤ g) := fun g e => by
      have h1 := (ho4.lt g e).1
      omega
    clear ho4 hg4 hm4 hC4 hCC b4 hown hsrc hone hB2
    go_upto_region 6 with fail
    go_wp2_with (at_builtin; refine wpList_append_moved rfl _ _ 25 rfl (w0.heap.size + 1) 5 iu (.int .u8 0) 1 1 Tryd.underlying25 hiu hu0 hu1 hu2 rfl (by decide) _ (L1 + L2) ((nums (vbn id)).map (Value.int .u8) ++ (nums (vbn n)).map (Value.int .u8)) rfl a n c rfl ((nums bs).map (Value.int .u8)) ?h1 ?h2 ?h3 ?m1 ?m2 ?m3 ?_)
    case h1 => exact hown4
    case h2 => exact hrow
    case h3 => exact hone4
    case m1 => unfold maxLen; omega
    case m2 => omega
    case m3 => exact hB4
    intro v6 w6 ho6 hg6 hm6
    have HC6 : Hid (Chg (fun _ => False) w0 w6) := HCC.out.grown hg6 (fun g e => .inr (HLT4.out g e))
    have hby : ByO w6 w0.heap.size v6 (vbn id ++ vbn n ++ bs) := by
      have h9 : w6.ownsRow (w0.heap.size + 1) 5 1 v6 (L1 + L2 + n) ((nums (vbn id ++ vbn n)).map (Value.int .u8) ++ (nums bs).map (Value.int .u8)) := by
        rw [nums_app, List.map_append, List.append_assoc]
        exact ho6
      exact owns_base (byO_app h9) (by omega)
    have HBY : Hid (ByO w6 w0.heap.size v6 (vbn id ++ vbn n ++ bs)) := hby
    clear ho6 hg6 hm6 hown4 hrow hone4 hB4 hby m4
    go_wp2
    go_ret2
    exact ⟨_, by rw [HE.out]; rfl, by rw [HE.out]; exact HBY.out, HC6.out⟩
end Go.Proofs.YtkncbanodpfccaaDoor
