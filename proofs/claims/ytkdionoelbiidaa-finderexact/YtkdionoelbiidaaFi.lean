/- The document's Best; of no statement by itself. -/
import Derived.Test.YtkdionoelbiidaaFh
namespace Go.Proofs.Ytkdionoelbiidaa
open Go.RowKit
set_option linter.unusedVariables false

/-- The state of the loop of Best. -/
structure RbI (w W : World) (la : Option Addr) (ms : List (Nat × Nat)) (x : Nat × Nat) : Prop where
  row : MRow W la ms
  res : W.heap[w.heap.size]? = some (.cells #[.int .i64 0, .int .i64 0] 30 (0, 0))
  box : W.heap[w.heap.size + 1]? = some (.cells #[.int .i64 (x.1 : Int), .int .i64 (x.2 : Int)] 30 (0, 0))
  chg : Chg (fun _ => False) w W
  apr : ∀ g, la = some ⟨g, 0, none⟩ → w.heap.size + 2 ≤ g
theorem RbI.new {w W W' : World} {la : Option Addr} {ms : List (Nat × Nat)} {x : Nat × Nat} (h : RbI w W la ms x) (hc : Chg (fun _ => False) W W') : RbI w W' la ms x := ⟨h.row.new hc, blk_keep h.res hc (fun f => f), blk_keep h.box hc (fun f => f), chg_then h.chg hc, h.apr⟩
theorem RbI.set {w W W' : World} {la : Option Addr} {ms : List (Nat × Nat)} {x y : Nat × Nat} (h : RbI w W la ms x) (hc : Chg (fun z => z = w.heap.size + 1) W W') (hb : W'.heap[w.heap.size + 1]? = some (.cells #[.int .i64 (y.1 : Int), .int .i64 (y.2 : Int)] 30 (0, 0))) : RbI w W' la ms y := by
  refine ⟨fun k m hk => ?_, blk_keep h.res hc (by omega), hb, h.chg.trans hc (fun z e => .inr (by omega)), h.apr⟩
  obtain ⟨g, e, h1, h2⟩ := h.row k m hk
  have hg := h.apr g e
  have h3 := World.block_lt_of_cell? W _ h1
  have h4 := World.block_lt_of_cell? W _ h2
  refine ⟨g, e, ?_, ?_⟩
  · rw [World.cell?_of_block (w := W) (hc.block _ h3 (by show ¬ g = w.heap.size + 1; omega))]; exact h1
  · rw [World.cell?_of_block (w := W) (hc.block _ h4 (by show ¬ g = w.heap.size + 1; omega))]; exact h2
set_option maxHeartbeats 8000000 in
set_option maxRecDepth 100000 in
theorem rfbest_any (r : Nat) (ad : Option Addr) (L c : Nat) (d : List Nat) (n p : Nat) (most : Int) (w : World) (h : Rf w r ad L c d n p) (hm : I64 most) : Calls Try.prog 20 #[.pointer (some ⟨r, 0, none⟩), .int .i64 most] w fun e w' => e = .returned (mval (bestM (mat d n p most))) ∧ Chg (fun _ => False) w w' := by
  have HM : Hid (∀ W, Chg (fun _ => False) w W → Calls Try.prog 21 #[.pointer (some ⟨r, 0, none⟩), .int .i64 most] W fun e w' => ∃ v, e = .returned v ∧ w'.ownsRow W.heap.size 30 2 v (mat d n p most).length (mcells (mat d n p most)) ∧ Chg (fun _ => False) W w') := fun W hc => rfmatches_any r ad L c d n p most W (h.new hc) hm
  have hml := mat_len d n p most
  obtain ⟨ms, hms⟩ : ∃ ms, mat d n p most = ms := ⟨_, rfl⟩
  rw [hms] at HM hml ⊢
  clear h hms
  go_enter Try.func20, Try.ntmps20
  go_wp2_with fail
  refine (HM.out _ (((Chg.refl _ w).alloc _).alloc _)).mono ?_
  rintro z w1 ⟨v, rfl, ho1, c1⟩
  obtain ⟨la, lc, hv⟩ := formN ho1
  subst hv
  have HI : Hid (RbI w w1 la ms (0, 0)) := by
    refine ⟨mrow_own ho1, blk_keep ?_ c1 (fun f => f), blk_keep ?_ c1 (fun f => f), chg_then (((Chg.refl _ w).alloc _).alloc _) c1, fun g e => ?_⟩
    · exact (Below.heap_alloc _ _ _ (by simp)).trans (heap_alloc_last w _)
    · have := heap_alloc_last (w.alloc (.cells #[.int .i64 0, .int .i64 0] 30)) (.cells #[.int .i64 0, .int .i64 0] 30)
      rwa [World.size_alloc] at this
    · subst e
      have := (ho1.lt g rfl).1
      simpa using this
  obtain ⟨Lm, hLm⟩ : ∃ Lm, ms.length = Lm := ⟨_, rfl⟩
  have HLM : Hid (ms.length = Lm) := hLm
  rw [hLm] at hml ⊢
  clear hLm ho1 c1 HM
  have hLmi : (Lm : Int) ≤ 32 := by omega
  go_wp2_with fail
  go_loopw [7] (fun v wr => ∃ i : Nat, i ≤ Lm ∧ v = .int .i64 (i : Int) ∧ Hid (RbI w wr la ms (bestM (ms.take i)))) (fun v _ => Lm - (intOf v).toNat)
  case atStart => exact ⟨0, Nat.zero_le _, rfl, HI.out⟩
  case round =>
    clear HI
    obtain ⟨i, hi, rfl, HI⟩ := hrel
    have hii : (i : Int) ≤ 32 := by omega
    by_cases hil : i < Lm
    · have hd : decide (i < Lm) = true := decide_eq_true hil
      obtain ⟨m, hm'⟩ : ∃ m, ms[i]? = some m := ⟨_, List.getElem?_eq_getElem (by rw [HLM.out]; exact hil)⟩
      obtain ⟨g, hla, hc1, hc2⟩ := HI.out.row i m hm'
      subst hla
      obtain ⟨ml, md⟩ := m
      obtain ⟨bx, hbx⟩ : ∃ bx, bestM (ms.take i) = bx := ⟨_, rfl⟩
      have HBS : Hid (bestM (ms.take (i + 1)) = if bx.1 < ml then (ml, md) else bx) := by
        show _ = _
        rw [List.take_add_one, hm']
        show bestM (ms.take i ++ [(ml, md)]) = _
        rw [bestM_snoc, hbx]
      have HMI : Hid (ms[i]? = some (ml, md)) := hm'
      rw [hbx] at HI
      have kba := cell0 HI.out.box
      simp only at hc1 hc2
      clear hm' hbx
      by_cases hbl : bx.1 < ml
      · have hl6 : decide ((bx.1 : Int) < (ml : Int)) = true := by simp; omega
        have hl6' : decide (bx.1 < ml) = true := decide_eq_true hbl
        go_wp2_with fail
        go_quiet (fail)
        have HI2 : Hid (RbI w (wr.drewN nq) (some ⟨g, 0, none⟩) ms bx) := HI.out.new (chg_drewN _ _)
        clear HI kba hc1 hc2
        generalize wr.drewN nq = W2 at *
        have kba := cell0 HI2.out.box
        have kbb := cell1 HI2.out.box
        have kfa := free0 HI2.out.box
        have kfb := free1 HI2.out.box
        obtain ⟨g', hg', hc1, hc2⟩ := HI2.out.row i (ml, md) HMI.out
        cases hg'
        simp only at hc1 hc2
        have HI3 : Hid (RbI w ((W2.setCell ⟨w.heap.size + 1, 0, none⟩ (.int .i64 (ml : Int))).setCell ⟨w.heap.size + 1, 1, none⟩ (.int .i64 (md : Int))) (some ⟨g, 0, none⟩) ms (bestM (ms.take (i + 1)))) := by
          rw [HBS.out, if_pos hbl]
          exact HI2.out.set (((Chg.refl (fun z => z = w.heap.size + 1) W2).setCell (p := ⟨w.heap.size + 1, 0, none⟩) (.inl rfl) _).setCell (p := ⟨w.heap.size + 1, 1, none⟩) (.inl rfl) _) (blk_set1 (blk_set0 HI2.out.box))
        clear HI2 HBS HMI
        go_wp2_with fail
        go_roundw
        case rel => exact ⟨i + 1, by omega, by go_num, HI3.out⟩
        case measure => simp [intOf]; omega
      · have hl6 : decide ((bx.1 : Int) < (ml : Int)) = false := by simp; omega
        have hl6' : decide (bx.1 < ml) = false := decide_eq_false hbl
        go_wp2_with fail
        go_quiet (fail)
        have HI3 : Hid (RbI w (wr.drewN nq) (some ⟨g, 0, none⟩) ms (bestM (ms.take (i + 1)))) := by
          rw [HBS.out, if_neg hbl]
          exact HI.out.new (chg_drewN _ _)
        clear HI HBS HMI
        go_wp2_with fail
        go_roundw
        case rel => exact ⟨i + 1, by omega, by go_num, HI3.out⟩
        case measure => simp [intOf]; omega
    · have hd : decide (i < Lm) = false := decide_eq_false hil
      obtain ⟨bx, hbx⟩ : ∃ bx, bestM ms = bx := ⟨_, rfl⟩
      have HI2 : Hid (RbI w wr la ms bx) := by
        have := HI.out
        rw [show i = ms.length by have := HLM.out; omega, List.take_length, hbx] at this
        exact this
      have HBX : Hid (bestM ms = bx) := hbx
      clear HI hbx
      have kba := cell0 HI2.out.box
      have kbb := cell1 HI2.out.box
      have kra := cell0 HI2.out.res
      have krb := cell1 HI2.out.res
      have kfa := free0 HI2.out.res
      have kfb := free1 HI2.out.res
      have HB4 : Hid (((wr.setCell ⟨w.heap.size, 0, none⟩ (.int .i64 (bx.1 : Int))).setCell ⟨w.heap.size, 1, none⟩ (.int .i64 (bx.2 : Int))).heap[w.heap.size]? = some (.cells #[.int .i64 (bx.1 : Int), .int .i64 (bx.2 : Int)] 30 (0, 0))) := blk_set1 (blk_set0 HI2.out.res)
      have HC4 : Hid (Chg (fun _ => False) w ((wr.setCell ⟨w.heap.size, 0, none⟩ (.int .i64 (bx.1 : Int))).setCell ⟨w.heap.size, 1, none⟩ (.int .i64 (bx.2 : Int)))) := HI2.out.chg.trans (((Chg.refl (fun z => z = w.heap.size) wr).setCell (p := ⟨w.heap.size, 0, none⟩) (.inl rfl) _).setCell (p := ⟨w.heap.size, 1, none⟩) (.inl rfl) _) (fun z e => .inr (by omega))
      go_wp2
      refine bodyPost_ret (results_cell_row rfl _ _ w.heap.size 30 _ (0, 0) _ rfl HB4.out Try.underlying30 rfl (by kernel_rfl)) rfl ⟨?_, HC4.out⟩
      rw [HBX.out]
      rfl
end Go.Proofs.Ytkdionoelbiidaa
