/- The document's told sizes in a header's room; of no statement by themselves. -/
import Derived.Test.YtkncbanodpfccaaDoorHdj
import Derived.Test.YtkncbanodpfccaaDoorCrt
namespace Go.Proofs.YtkncbanodpfccaaDoor
open Go.RowKit
open St12
set_option linter.unusedVariables false
set_option linter.unusedSimpArgs false
theorem byte_injH {a b : Int} (ha : 0 ≤ a ∧ a ≤ 255) (hb : 0 ≤ b ∧ b ≤ 255) (h : UInt8.ofNat a.toNat = UInt8.ofNat b.toNat) : a = b := by
  have h2 := congrArg UInt8.toNat h
  simp only [UInt8.toNat_ofNat'] at h2
  omega
theorem map_injH : ∀ {xs ys : List Int}, Vint.Bytes8 xs → Vint.Bytes8 ys → (xs.map fun n => UInt8.ofNat n.toNat) = (ys.map fun n => UInt8.ofNat n.toNat) → xs = ys
  | [], [], _, _, _ => rfl
  | [], y :: ys, _, _, h => by simp at h
  | x :: xs, [], _, _, h => by simp at h
  | x :: xs, y :: ys, hx, hy, h => by
    simp only [List.map_cons, List.cons.injEq] at h
    rw [byte_injH (hx x (by simp)) (hy y (by simp)) h.1, map_injH (fun z hz => hx z (by simp [hz])) (fun z hz => hy z (by simp [hz])) h.2]
/-- Two lists of bytes as strings: are they one? -/
theorem str_neqH {a b : List Nat} (ha : Rc.Dig a) (hb : Rc.Dig b) : (!((strOfNums (nums a)).toList == (strOfNums (nums b)).toList)) = decide (a ≠ b) := by
  by_cases h : a = b
  · subst h; simp
  · have hn : ¬ (strOfNums (nums a)).toList = (strOfNums (nums b)).toList := fun e => h (nums_inj (map_injH (dig_b8 ha) (dig_b8 hb) (by rw [← strOfNums_data, ← strOfNums_data, ← ByteArray.toList_eq, ← ByteArray.toList_eq, e])))
    simp [h, hn]
/-- A told size at a place of the room: it, where it ends, the error. -/
noncomputable def szA (R : List Nat) (k : Nat) : Int × Nat × Int := if (getN (R.drop k)).2.2 ≠ 0 then (0, 0, 2) else (((getN (R.drop k)).1 : Int), k + (getN (R.drop k)).2.1, 0)
theorem szA_le {R : List Nat} {k : Nat} (hk : k ≤ R.length) : (szA R k).2.1 ≤ R.length := by
  have h := getN_pos (R.drop k)
  rw [List.length_drop] at h
  unfold szA
  split
  · exact Nat.zero_le _
  · simp only; omega
theorem szA_is {R : List Nat} {k : Nat} : ((szA R k).2.2 = 0 ∨ (szA R k).2.2 = 2) ∧ Hd21.getSz true (R.drop k) = if (szA R k).2.2 ≠ 0 then (0, [], 2) else ((szA R k).1, R.drop (szA R k).2.1, 0) := by
  unfold szA Hd21.getSz
  by_cases h : (getN (R.drop k)).2.2 ≠ 0
  · simp [h]
  · simp [h, List.drop_drop]
set_option maxHeartbeats 4000000 in
set_option maxRecDepth 100000 in
theorem rsize_any (ra : Option Addr) (rn rc : Nat) (R : List Nat) (k : Nat) (w : World) (h : Row8 w ra rn rc (nums R)) (hd : Rc.Dig R) (hc : rn ≤ rc) (hn : rn ≤ 140737488355328) (hk : k ≤ rn) : Calls Tryd.prog 57 #[.slice ra rn rc, .int .i64 (k : Int)] w fun e w' => e = .returned (.tuple #[.int .i64 (szA R k).1, .int .i64 ((szA R k).2.1 : Int), .int .i64 (szA R k).2.2]) ∧ w' = w := by
  have hcut : ∀ ww, (Instr.sliceAt 25 (.slice ra rn rc) (some (.int .i64 (k : Int))) none none).run Tryd.prog ww = .ok (.slice (cutZ ra rc k 1) (rn - k) (rc - k)) ww := fun ww => run_cutZ_lo undBy elemBy sizeBy ra rn rc k ww hk
  have HG : Hid _ := rvget_any _ (rn - k) (rc - k) (R.drop k) w (row8_cutZ h hc hk) (dig_drop hd k) (by omega)
  have HS : Hid _ := szA.eq_1 R k
  have hb := fun e => (getN_back (dig_drop hd k) e).2
  have hp := getN_pos (R.drop k)
  have hR : R.length = rn := by have h9 := h.1; rw [nums_len] at h9; exact h9
  rw [List.length_drop, hR] at hp
  obtain ⟨v, m, e, hg⟩ : ∃ a b c, getN (R.drop k) = (a, b, c) := ⟨_, _, _, rfl⟩
  rw [hg] at HG HS hb hp
  simp only at HG HS hb hp
  have hki : (k : Int) ≤ 140737488355328 := by omega
  clear h hd hg hR
  by_cases h0 : e = 0
  · subst h0
    have HS2 := HS.out
    rw [if_neg (by simp)] at HS2
    have HSS : Hid (szA R k = ((v : Int), k + m, 0)) := HS2
    have hv := hb rfl
    have hm : (m : Int) ≤ 9 := by omega
    obtain ⟨y, hy⟩ : ∃ y : Int, (v : Int) = y := ⟨_, rfl⟩
    rw [hy] at HG HSS
    have hy0 : 0 ≤ y := by omega
    have hy1 : y ≤ 9223372036854775807 := by omega
    have hw : IntKind.i64.wrap y = y := by simp [IntKind.wrap, IntKind.signed, IntKind.bits]; omega
    clear HS HS2 hv hy hb hp
    go_enter Tryd.func57, Tryd.ntmps57
    go_wp2_with fail
    refine Calls.mono HG.out ?_
    rintro z w1 ⟨rfl, rfl⟩
    go_wp2
    go_ret3
    exact ⟨by rw [HSS.out]; push_cast; rfl, rfl⟩
  · have HS2 := HS.out
    rw [if_pos (by exact h0)] at HS2
    have HSS : Hid (szA R k = (0, 0, 2)) := HS2
    have x1 : (e != 0) = true := by simp [h0]
    clear HS HS2 hb hp h0
    go_enter Tryd.func57, Tryd.ntmps57
    go_wp2_with fail
    refine Calls.mono HG.out ?_
    rintro z w1 ⟨rfl, rfl⟩
    go_wp2
    go_ret3
    exact ⟨by rw [HSS.out]; rfl, rfl⟩
end Go.Proofs.YtkncbanodpfccaaDoor
