/- The program's Put of filters; of no statement by itself. -/
import Derived.Test.YtkncbanodpfccaaDoorClc
namespace Go.Proofs.YtkncbanodpfccaaDoor
open Go.RowKit
open St12
set_option linter.unusedVariables false
set_option linter.unusedSimpArgs false
/-- A number's bytes, as the program makes them. -/
theorem lvput_any (v : Nat) (w : World) (hT : Vint.Tab w) (h : v ≤ 9223372036854775807) : Calls Tryd.prog 60 #[.int .u64 (v : Int)] w fun e w' => ∃ ad c, e = .returned (.tuple #[.slice ad (vbn v).length c, .int .i64 0]) ∧ Row8 w' ad (vbn v).length c (nums (vbn v)) ∧ Chg (fun _ => False) w w' := by
  refine (Vint.put_any (v : Int) w hT (by omega) (by omega)).mono fun e w' ⟨he, hb, hc⟩ => ?_
  rw [vbn_len]
  refine ⟨_, _, he, ?_, hc⟩
  rw [nums_vbn]
  exact Vint.row8_blk hb _ (Vint.vb_length _) _
theorem cells3b {w : World} {a : Nat} {x0 x1 x2 : Value} {t : TypeId} (h : w.heap[a]? = some (.cells #[x0, x1, x2] t (0, 0))) : w.cell? ⟨a, 0, none⟩ = some x0 ∧ w.cell? ⟨a, 1, none⟩ = some x1 ∧ w.cell? ⟨a, 2, none⟩ = some x2 :=
  ⟨by simp [World.cell?, h], by simp [World.cell?, h], by simp [World.cell?, h]⟩
theorem bsL3 {w : World} {g : Nat} {q0 q1 q2 : BsV} {t : TypeId} (h : w.heap[g]? = some (.cells #[.slice q0.a q0.n q0.c, .slice q1.a q1.n q1.c, .slice q2.a q2.n q2.c] t (0, 0))) (h0 : Row8 w q0.a q0.n q0.c (nums q0.bs)) (h1 : Row8 w q1.a q1.n q1.c (nums q1.bs)) (h2 : Row8 w q2.a q2.n q2.c (nums q2.bs)) : BsL w (some ⟨g, 0, none⟩) [q0, q1, q2] := fun k q hk => by
  obtain ⟨k0, k1, k2⟩ := cells3b h
  rcases k with _ | _ | _ | k
  · simp at hk; subst hk; exact ⟨h0, g, 0, rfl, k0⟩
  · simp at hk; subst hk; exact ⟨h1, g, 0, rfl, k1⟩
  · simp at hk; subst hk; exact ⟨h2, g, 0, rfl, k2⟩
  · simp at hk
set_option maxHeartbeats 8000000 in
set_option maxRecDepth 100000 in
theorem put20_any (id : Nat) (a : Option Addr) (n c : Nat) (bs : List Nat) (w0 : World) (hT : Vint.Tab w0) (h : (⟨id, a, n, c, bs⟩ : FlV).ok w0) : Calls Tryd.prog 38 #[.agg #[.int .u64 (id : Int), .slice a n c]] w0 fun e w' => ∃ ov, e = .returned (.tuple #[ov, .int .i64 (Cn20.putF ⟨id, bs⟩).2]) ∧ ByO w' w0.heap.size ov (Cn20.putF ⟨id, bs⟩).1 ∧ Chg (fun _ => False) w0 w' := by
  have HO : Hid ((⟨id, a, n, c, bs⟩ : FlV).ok w0) := h
  have HBL : Hid (bs.length = n) := h.len
  have HT : Hid (Vint.Tab w0) := hT
  have hn : (n : Int) ≤ 140737488351232 := by have := h.lim; simp only at this; omega
  have HV : Hid (∀ (v : Nat) (w : World), Vint.Tab w → v ≤ 9223372036854775807 → Calls Tryd.prog 60 #[.int .u64 (v : Int)] w fun e w' => ∃ ad c, e = .returned (.tuple #[.slice ad (vbn v).length c, .int .i64 0]) ∧ Row8 w' ad (vbn v).length c (nums (vbn v)) ∧ Chg (fun _ => False) w w') := fun v w h1 hv => lvput_any v w h1 hv
  obtain ⟨y, hy⟩ : ∃ y : Int, (id : Int) = y := ⟨_, rfl⟩
  have HY : Hid ((id : Int) = y) := hy
  rw [hy]
  have cA := chg_one w0 (.cells #[.int .u64 y, .slice a n c] 54)
  have bA := heap_alloc_last w0 (.cells #[.int .u64 y, .slice a n c] 54)
  have m0 : (w0.alloc (.cells #[.int .u64 y, .slice a n c] 54)).cell? ⟨w0.heap.size, 0, none⟩ = some (.int .u64 y) := cell0 bA
  have HBA : Hid ((w0.alloc (.cells #[.int .u64 y, .slice a n c] 54)).heap[w0.heap.size]? = some (.cells #[.int .u64 y, .slice a n c] 54 (0, 0))) := bA
  have HCA : Hid (Chg (fun _ => False) w0 (w0.alloc (.cells #[.int .u64 y, .slice a n c] 54))) := cA
  clear h hT cA bA
  by_cases hbig : 9223372036854775807 < id
  · have hno := Vint.put_no y (w0.alloc (.cells #[.int .u64 y, .slice a n c] 54)) (by omega)
    have HE : Hid (Cn20.putF ⟨id, bs⟩ = ([], 7)) := by show _ = _; unfold Cn20.putF; rw [if_pos (by exact hbig)]
    clear hbig hy
    go_enter Tryd.func38, Tryd.ntmps38
    go_wp2_with fail
    refine Calls.mono hno ?_
    rintro z w1 ⟨rfl, rfl⟩
    go_wp2
    go_ret2
    exact ⟨_, by rw [HE.out]; rfl, by rw [HE.out]; exact byO_nil _ _, HCA.out⟩
  · have HE : Hid (Cn20.putF ⟨id, bs⟩ = (vbn id ++ vbn n ++ bs, 0)) := by show _ = _; rw [Cn20.put_ok (by show id ≤ _; omega), HBL.out]
    have HV1 : Hid _ := HV.out id (w0.alloc (.cells #[.int .u64 y, .slice a n c] 54)) (HT.out.new HCA.out) (by omega)
    rw [hy] at HV1
    have hl1 := vbn_le id
    have hl2 := vbn_le n
    obtain ⟨L1, hL1⟩ : ∃ L, (vbn id).length = L := ⟨_, rfl⟩
    obtain ⟨L2, hL2⟩ : ∃ L, (vbn n).length = L := ⟨_, rfl⟩
    rw [hL1] at HV1 hl1
    rw [hL2] at hl2
    have HL1 : Hid ((vbn id).length = L1) := hL1
    have HL2 : Hid ((vbn n).length = L2) := hL2
    have hw : IntKind.u64.wrap (n : Int) = (n : Int) := by simp [IntKind.wrap, IntKind.signed, IntKind.bits]; omega
    have hlA : (L1 : Int) ≤ 9 := by omega
    have hlB : (L2 : Int) ≤ 9 := by omega
    clear hbig hy hL1 hL2
    go_enter Tryd.func38, Tryd.ntmps38
    go_wp2_with fail
    refine Calls.mono HV1.out ?_
    rintro z w1 ⟨a1, d1, rfl, hr1, c1⟩
    have m1 : w1.cell? ⟨w0.heap.size, 1, none⟩ = some (.slice a n c) := cell_chg (cell1 HBA.out) c1
    have HC1 : Hid (Chg (fun _ => False) w0 w1) := chg_then HCA.out c1
    have HV2 : Hid _ := HV.out n w1 (HT.out.new HC1.out) (by omega)
    rw [HL2.out] at HV2
    have HR1 : Hid (Row8 w1 a1 L1 d1 (nums (vbn id))) := hr1
    clear m0 hr1 c1 HBA HCA HV1
    go_wp2_with fail
    refine Calls.mono HV2.out ?_
    rintro z w2 ⟨a2, d2, rfl, hr2, c2⟩
    have m2 := cell_chg m1 c2
    have HC2 : Hid (Chg (fun _ => False) w0 w2) := chg_then HC1.out c2
    have HR2 : Hid (Row8 w2 a1 L1 d1 (nums (vbn id)) ∧ Row8 w2 a2 L2 d2 (nums (vbn n)) ∧ Row8 w2 a n c (nums bs)) := ⟨Bk.row8_chg HR1.out c2, hr2, Bk.row8_chg HO.out.row HC2.out⟩
    clear m1 hr2 c2 HV2 HC1 HR1
    have cB := chg_one w2 (.cells #[.slice a1 L1 d1, .slice a2 L2 d2, .slice a n c] 25)
    have HX : Hid _ := cat8_any (some ⟨w2.heap.size, 0, none⟩) 3 3 [⟨a1, L1, d1, vbn id⟩, ⟨a2, L2, d2, vbn n⟩, ⟨a, n, c, bs⟩] (w2.alloc (.cells #[.slice a1 L1 d1, .slice a2 L2 d2, .slice a n c] 25)) (bsL3 (heap_alloc_last w2 _) (Bk.row8_chg HR2.out.1 cB) (Bk.row8_chg HR2.out.2.1 cB) (Bk.row8_chg HR2.out.2.2 cB)) rfl (by omega) (by simp [totB]; omega)
    have HCB : Hid (Chg (fun _ => False) w0 (w2.alloc (.cells #[.slice a1 L1 d1, .slice a2 L2 d2, .slice a n c] 25)) ∧ w0.heap.size ≤ (w2.alloc (.cells #[.slice a1 L1 d1, .slice a2 L2 d2, .slice a n c] 25)).heap.size) := ⟨chg_then HC2.out cB, (chg_then HC2.out cB).size⟩
    clear cB HR2
    go_wp2_with fail
    refine Calls.mono HX.out ?_
    rintro z w3 ⟨v3, rfl, ho3, c3⟩
    have HF : Hid (ByO w3 w0.heap.size v3 (vbn id ++ vbn n ++ bs) ∧ Chg (fun _ => False) w0 w3) := by
      refine ⟨owns_base ?_ HCB.out.2, chg_then HCB.out.1 c3⟩
      have e : catB [⟨a1, L1, d1, vbn id⟩, ⟨a2, L2, d2, vbn n⟩, ⟨a, n, c, bs⟩] = vbn id ++ vbn n ++ bs := by simp [catB]
      rw [e] at ho3
      exact ho3
    clear ho3 c3 HX HCB
    go_wp2
    go_ret2
    exact ⟨_, by rw [HE.out]; rfl, by rw [HE.out]; exact HF.out.1, HF.out.2⟩
end Go.Proofs.YtkncbanodpfccaaDoor
