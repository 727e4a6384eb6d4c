/- The program's Literals, and what is asked of symbol; of no statement by itself. -/
import Derived.Test.YtlnocjicmofjfaaDoorZa
import Derived.Test.YtlnocjicmofjfaaDoorYd
namespace Go.Proofs.YtlnocjicmofjfaaDoor
open Go.RowKit
open St12 Sy13
set_option linter.unusedVariables false
set_option linter.unusedSimpArgs false

variable {Win : World → Nat → Nat → Value → Nat → List Nat → Prop} {Tab : World → Prop}
def zeroY : Sym := ⟨0, 0, 0, 0⟩
theorem made4 (n : Nat) : (madeCells (Value.agg #[.int .i64 0, .int .u8 0, .int .i64 0, .int .i64 0]).cells (n * 4)).toList = symcs (List.replicate n zeroY) := by
  have hz : (Value.agg #[.int .i64 0, .int .u8 0, .int .i64 0, .int .i64 0]).cells = #[.int .i64 0, .int .u8 0, .int .i64 0, .int .i64 0] := rfl
  rw [hz]
  apply List.ext_getElem?
  intro j
  by_cases hj : j < n * 4
  · have h1 := symcs_at (List.replicate n zeroY) (j / 4) zeroY (by rw [List.getElem?_replicate, if_pos (by omega)]) (j % 4) (Nat.mod_lt _ (by decide))
    have e : j / 4 * 4 + j % 4 = j := by omega
    rw [e] at h1
    rw [h1]
    simp only [madeCells]
    rw [Array.getElem?_toList, Array.getElem?_map, Array.getElem?_range, if_pos hj]
    have hk : j % 4 = 0 ∨ j % 4 = 1 ∨ j % 4 = 2 ∨ j % 4 = 3 := by omega
    rcases hk with h | h | h | h <;> simp [h, symc, zeroY]
  · rw [List.getElem?_eq_none (by rw [Array.length_toList, size_madeCells]; omega), List.getElem?_eq_none (by rw [symcs_len, List.length_replicate]; omega)]
theorem make4 (n : Nat) (hn : n ≤ 4194304) (w : World) : (Instr.makeSlice 22 (.int .i64 (n : Int)) (.int .i64 (n : Int))).run Tryd.prog w = .ok (.slice (some ⟨w.heap.size, 0, none⟩) n n) (w.alloc (.cells (symcs (List.replicate n zeroY)).toArray 33)) := by
  obtain ⟨iy, hiy, hy0, hy1, hy2⟩ := info_parts infoSym
  have h := run_make (P := Tryd.prog) w 22 33 iy _ Tryd.underlying22 hiy hy0 .i64 .i64 n n (by omega) (Int.le_refl _) (by rw [hy2]; omega) (by omega)
  simp only [Int.toNat_natCast, hy1] at h
  rw [h]
  have e := made4 n
  rw [← e]
theorem own4 (n : Nat) (hn : n ≤ 4194304) (w : World) : SymO (w.alloc (.cells (symcs (List.replicate n zeroY)).toArray 33)) w.heap.size (.slice (some ⟨w.heap.size, 0, none⟩) n n) (List.replicate n zeroY) := by
  have h := World.ownsRow_lit (base := w.heap.size) (e := 33) (size := 4) w (symcs (List.replicate n zeroY)).toArray n (Nat.le_refl _) (by unfold maxLen; omega) (by simp [symcs_len])
  unfold SymO
  rw [List.length_replicate]
  exact h
set_option maxHeartbeats 4000000 in
set_option maxRecDepth 100000 in
theorem tlits_any (ba : Option Addr) (bc bL : Nat) (bs : List Nat) (w0 : World) (hL : bs.length = bL) (hr : Row8 w0 ba bL bc (nums bs)) (hle : bL ≤ 4194304) : Calls Tryd.prog 15 #[.slice ba bL bc] w0 fun e w' => ∃ ov, e = .returned ov ∧ SymO w' w0.heap.size ov (bs.map litY) ∧ Chg (fun _ => False) w0 w' := by
  have HR0 : Hid (Row8 w0 ba bL bc (nums bs)) := hr
  have HBL : Hid (bs.length = bL) := hL
  obtain ⟨ls, hls⟩ : ∃ ls, bs.map litY = ls := ⟨_, rfl⟩
  have HLS : Hid (bs.map litY = ls ∧ ls.length = bL) := ⟨hls, by rw [← hls, List.length_map, hL]⟩
  have hmk := fun ww => make4 bL hle ww
  have HO : Hid _ := own4 bL hle w0
  have HC0 : Hid _ := chg_one w0 (.cells (symcs (List.replicate bL zeroY)).toArray 33)
  rw [hls]
  clear hL hr hls
  go_enter Tryd.func15, Tryd.ntmps15
  go_wp2_with fail
  generalize w0.alloc (.cells (symcs (List.replicate bL zeroY)).toArray 33) = W at *
  go_loopw [11] (fun v1 wq => ∃ (i : Nat) (l2 : List Sym), i ≤ bL ∧ v1 = .int .i64 (i : Int) ∧ Hid (l2.length = bL ∧ (∀ j, j < i → l2[j]? = ls[j]?) ∧ (∀ j, i ≤ j → j < bL → l2[j]? = some zeroY) ∧ SymO wq w0.heap.size (.slice (some ⟨w0.heap.size, 0, none⟩) bL bL) l2 ∧ Chg (fun _ => False) w0 wq)) (fun v1 _ => bL - (intOf v1).toNat)
  case atStart => exact ⟨0, _, by omega, rfl, List.length_replicate, (fun j hj => by omega), (fun j _ hj => by rw [List.getElem?_replicate, if_pos hj]), HO.out, HC0.out⟩
  case round =>
    clear HO HC0 hmk
    obtain ⟨i2, l2, hi2, rfl, HI⟩ := hrel
    have hii2 : (i2 : Int) ≤ (bL : Int) := by omega
    have hbi2 : (bL : Int) ≤ 4194304 := by omega
    by_cases hlt : i2 < bL
    · have hd1 : decide ((i2 : Int) < (bL : Int)) = true := by simp; omega
      have hd1' : decide (i2 < bL) = true := decide_eq_true hlt
      obtain ⟨x, hx⟩ : ∃ x, bs[i2]? = some x := ⟨bs[i2]'(by have := HBL.out; omega), List.getElem?_eq_getElem _⟩
      have hy : ls[i2]? = some (litY x) := by rw [← HLS.out.1, List.getElem?_map, hx]; rfl
      have hy2' : l2[i2]? = some zeroY := HI.out.2.2.1 i2 (Nat.le_refl _) hlt
      obtain ⟨bx, hbx, kb⟩ := row8_cell (row8_keep HR0.out HI.out.2.2.2.2 (fun _ _ f => f)) hx
      obtain ⟨⟨p0, g0⟩, ⟨p1, g1⟩, ⟨p2, g2⟩, ⟨p3, g3⟩⟩ := symo_may4 HI.out.2.2.2.1 HI.out.1 hy2' (litY x)
      simp only [zeroY, litY] at p0 p1 p2 p3 g0 g1 g2 g3
      have HSN : Hid (SymO ((((wr.setCell ⟨w0.heap.size, i2 * 4, none⟩ (.int .i64 1)).setCell ⟨w0.heap.size, i2 * 4 + 1, none⟩ (.int .u8 (x : Int))).setCell ⟨w0.heap.size, i2 * 4 + 2, none⟩ (.int .i64 0)).setCell ⟨w0.heap.size, i2 * 4 + 3, none⟩ (.int .i64 0)) w0.heap.size (.slice (some ⟨w0.heap.size, 0, none⟩) bL bL) (l2.set i2 (litY x))) := symo_put4 HI.out.2.2.2.1 HI.out.1 hlt (litY x)
      have HCN : Hid (Chg (fun _ => False) w0 ((((wr.setCell ⟨w0.heap.size, i2 * 4, none⟩ (.int .i64 1)).setCell ⟨w0.heap.size, i2 * 4 + 1, none⟩ (.int .u8 (x : Int))).setCell ⟨w0.heap.size, i2 * 4 + 2, none⟩ (.int .i64 0)).setCell ⟨w0.heap.size, i2 * 4 + 3, none⟩ (.int .i64 0))) := HI.out.2.2.2.2.trans (((((Chg.refl (fun z => z = w0.heap.size) wr).setCell (p := ⟨w0.heap.size, i2 * 4, none⟩) (.inl rfl) _).setCell (p := ⟨w0.heap.size, i2 * 4 + 1, none⟩) (.inl rfl) _).setCell (p := ⟨w0.heap.size, i2 * 4 + 2, none⟩) (.inl rfl) _).setCell (p := ⟨w0.heap.size, i2 * 4 + 3, none⟩) (.inl rfl) _) (fun z e => .inr (by omega))
      have HIN : Hid ((l2.set i2 (litY x)).length = bL ∧ (∀ j, j < i2 + 1 → (l2.set i2 (litY x))[j]? = ls[j]?) ∧ (∀ j, i2 + 1 ≤ j → j < bL → (l2.set i2 (litY x))[j]? = some zeroY)) := ⟨by rw [List.length_set]; exact HI.out.1, fun j hj => by
        by_cases e : j = i2
        · subst e; rw [List.getElem?_set_self (by have := HI.out.1; omega), hy]
        · rw [List.getElem?_set_ne (by omega)]; exact HI.out.2.1 j (by omega), fun j hj hj2 => by
        rw [List.getElem?_set_ne (by omega)]; exact HI.out.2.2.1 j (by omega) hj2⟩
      clear hx hy hy2' HI
      subst hbx
      go_wp2_with fail
      exact ⟨⟨i2 + 1, l2.set i2 (litY x), by omega, by go_num, HIN.out.1, HIN.out.2.1, HIN.out.2.2, HSN.out, HCN.out⟩, by simp [intOf]; omega⟩
    · have hd1 : decide ((i2 : Int) < (bL : Int)) = false := by simp; omega
      have hd1' : decide (i2 < bL) = false := decide_eq_false hlt
      have HS : Hid (SymO wr w0.heap.size (.slice (some ⟨w0.heap.size, 0, none⟩) bL bL) ls) := by
        have h9 := HI.out.2.2.2.1
        have e : l2 = ls := by
          apply List.ext_getElem?
          intro j
          by_cases hj : j < bL
          · exact HI.out.2.1 j (by omega)
          · rw [List.getElem?_eq_none (by have := HI.out.1; omega), List.getElem?_eq_none (by have := HLS.out.2; omega)]
        rw [e] at h9
        exact h9
      have HC : Hid _ := HI.out.2.2.2.2
      clear HI
      go_wp2
      go_ret
      exact ⟨_, rfl, HS.out, HC.out⟩
theorem applyOk (S : WinSpec Win) (T : StSpec Tab) (KT : ∀ {w0 w w' : World} {S : Nat → Prop}, Tab w0 → Tab w → Chg S w w' → (∀ z, S z → w0.heap.size ≤ z) → Tab w') : ApplyOk Win Tab := fun w0 a v n bs s y w hT0 hT hB hw hs hy hl =>
  (tapply_any S T KT w0 a v n bs s.n s.a s.b s.c s.d y.k y.y y.l y.d hs hy w hT0 hT hB hw hl).mono fun e w' h => by
    obtain ⟨ov, v', he, hm, hc, hv⟩ := h
    exact ⟨ov, v', he, hm.win, hm.out, hm.apart, hc, hv⟩
theorem symSpec (S : WinSpec Win) (T : StSpec Tab) (KT : ∀ {w0 w w' : World} {S : Nat → Prop}, Tab w0 → Tab w → Chg S w w' → (∀ z, S z → w0.heap.size ≤ z) → Tab w') : SymSpec Win Tab where
  keep := KT
  apply := applyOk S T KT
  expand := fun dict ad c l w hT hd hl hc hle => texpand_any S T (applyOk S T KT) dict ad c l.length l w hT rfl hd hl hle
  size := fun y w hT hy => tsize_q T y.k y.y y.l y.d hy w hT
  lits := fun ad c bs w hT hr hd hc hle => tlits_any ad c bs.length bs w rfl hr hle
end Go.Proofs.YtlnocjicmofjfaaDoor
