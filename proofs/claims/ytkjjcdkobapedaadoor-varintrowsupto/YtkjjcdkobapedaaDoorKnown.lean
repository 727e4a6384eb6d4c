/- The contracts of room, kept and known; of no statement by themselves. -/
import Derived.Test.YtkjjcdkobapedaaDoorRefGet
namespace Go.Proofs.YtkjjcdkobapedaaDoor
open Go.RowKit

theorem row8_two (w : World) (x y : Int) (t : TypeId) : Row8 (w.alloc (.cells #[.int .u8 x, .int .u8 y] t)) (some ⟨w.heap.size, 0, none⟩) 2 2 [x, y] := by
  refine ⟨rfl, .inr ⟨_, rfl, ?_⟩⟩
  intro j u hu
  match j, hu with
  | 0, hu => simp at hu; subst hu; simp [Addr.add]
  | 1, hu => simp at hu; subst hu; simp [Addr.add]

set_option maxHeartbeats 1000000 in
theorem room_any (ad : Option Addr) (m c : Nat) (xs : List Int) (w : World) (h : Row8 w ad m c xs) (hm : m ≤ 140737488351232) :
    Calls Tryd.prog 17 #[.slice ad m c] w fun e w' => ∃ p, e = .returned p ∧ w'.ownsRow w.heap.size 5 1 p (m + 2) (cells8 (xs ++ [165, 90])) ∧ Chg (fun _ => False) w w' := by
  obtain ⟨i0, hi, hz0, hz1, hz2⟩ := info_parts info5
  go_enter Tryd.func17, Tryd.ntmps17
  go_wp2_with (at_builtin; refine wpList_append_moved rfl (.tmp 4) (.tmp 5) 24 rfl w.heap.size 5 i0 (.int .u8 0) 1 1 Tryd.underlying24 hi hz0 hz1 hz2 rfl (by decide) _ 0 [] rfl ad m c rfl (cells8 xs) (World.ownsRow_nil _ _ _ _) h.src (oneCells xs) (by unfold maxLen; omega) (by omega) (Nat.le_refl _) ?_)
  intro v1 w1 hown1 hg1 hm1
  have hc1 : Chg (fun _ => False) w w1 := (Chg.refl _ w).grown hg1 (fun j e => by cases e)
  have hs1 := hc1.size
  obtain ⟨ba, bc, rfl⟩ := own_slice hown1
  clear hg1 hm1
  go_wp2_with (at_builtin; refine wpList_append_moved rfl (.tmp 7) (.tmp 8) 24 rfl w.heap.size 5 i0 (.int .u8 0) 1 1 Tryd.underlying24 hi hz0 hz1 hz2 rfl (by decide) _ m (cells8 xs) rfl (some ⟨w1.heap.size, 0, none⟩) 2 2 rfl [.int .u8 165, .int .u8 90] (hown1.alloc _) (row8_two w1 165 90 5).src (oneCells [165, 90]) (by unfold maxLen; omega) (by omega) (by simp; omega) ?_)
  intro v2 w2 hown2 hg2 hm2
  have hc2 : Chg (fun _ => False) w w2 := (hc1.alloc _).grown hg2 (fun j e => .inr ((hown1.lt j e).1))
  have HO : Hid (w2.ownsRow w.heap.size 5 1 v2 (m + 2) (cells8 (xs ++ [165, 90]))) := by
    show w2.ownsRow _ _ _ _ _ _
    simpa [cells8] using hown2
  obtain ⟨ba2, bc2, rfl⟩ := own_slice hown2
  clear hown2 hg2 hm2 hown1
  go_wp2
  go_ret
  exact ⟨_, rfl, HO.out, hc2⟩

set_option maxHeartbeats 1000000 in
theorem kept_any (g cl : Nat) (ad : Option Addr) (m c : Nat) (xs : List Int) (w : World) (hl : Row8 w (some ⟨g, 0, none⟩) (m + 2) cl (xs ++ [165, 90])) (hcl : m + 2 ≤ cl) (h : Row8 w ad m c xs) (hm : m ≤ 140737488351232) :
    Calls Tryd.prog 19 #[.slice (some ⟨g, 0, none⟩) (m + 2) cl, .slice ad m c] w fun e w' => e = .returned (.bool true) ∧ ∃ k, w' = w.drewN k := by
  have hx := h.1
  have hv1 := conv8 h
  have hv2 := conv8 (row8_take hl m (by omega))
  rw [List.take_left' hx] at hv2
  obtain ⟨x, hxe, hcell⟩ : ∃ x, some (⟨g, 0, none⟩ : Addr) = some x ∧ ∀ j u, ((xs ++ [165, 90]).map (Value.int .u8))[j]? = some u → w.cell? (x.add j) = some u := by
    rcases hl.2 with ⟨e, _⟩ | e
    · cases e
    · exact e
  simp only [Option.some.injEq] at hxe
  subst hxe
  have hadd : ∀ j, (⟨g, 0, none⟩ : Addr).add j = ⟨g, j, none⟩ := fun j => by unfold Addr.add; split <;> simp_all
  have c1 : w.cell? ⟨g, m, none⟩ = some (.int .u8 165) := by
    rw [← hadd]
    exact hcell m _ (by simp [hx])
  have c2 : w.cell? ⟨g, m + 1, none⟩ = some (.int .u8 90) := by
    rw [← hadd]
    exact hcell (m + 1) _ (by simp [hx])
  generalize strOfNums xs = s at *
  clear hcell hadd hl h hx
  go_enter Tryd.func19, Tryd.ntmps19
  go_wp2_with fail
  go_quiet (fail)
  go_wp2
  go_ret
  exact ⟨rfl, _, rfl⟩

theorem vb300 : vb 300 = [172, 2] := by decide
theorem sz300 : sz 300 = 2 := by decide

set_option maxHeartbeats 1000000 in
theorem known_any (w : World) (hT : Tab w) :
    Calls Tryd.prog 13 #[] w fun e w' => e = .returned (.bool true) ∧ Chg (fun _ => False) w w' := by
  go_enter Tryd.func13, Tryd.ntmps13
  go_wp2_with fail
  refine (put_any 300 _ hT (by omega) (by omega)).mono ?_
  rintro e w1 ⟨rfl, hb1, hc1⟩
  have hT1 := hT.new hc1
  rw [vb300] at hb1
  rw [sz300]
  have hT2 : Tab (w1.alloc (.cells #[.int .u8 172, .int .u8 2, .int .u8 255] 5)) := hT1.new (chg_one _ _ _)
  have hb2 : (w1.alloc (.cells #[.int .u8 172, .int .u8 2, .int .u8 255] 5)).heap[w.heap.size]? = some (.cells (cells8 [172, 2]).toArray 5 (0, 0)) := blk_keep hb1 (chg_one (fun _ => False) w1 (.cells #[.int .u8 172, .int .u8 2, .int .u8 255] 5)) (fun f => f)
  have hb3 : (w1.alloc (.cells #[.int .u8 172, .int .u8 2, .int .u8 255] 5)).heap[w1.heap.size]? = some (.cells (cells8 [172, 2, 255]).toArray 5 (0, 0)) := heap_alloc_new w1 _
  have hC : Chg (fun _ => False) w (w1.alloc (.cells #[.int .u8 172, .int .u8 2, .int .u8 255] 5)) := hc1.alloc _
  have hcv := conv8_here (row8_blk hb2 2 rfl 2)
  have hst : strOfNums [172, 2] = ⟨#[172, 2]⟩ := rfl
  rw [hst] at hcv
  have hg := get_any _ _ _ _ _ (row8_blk hb3 3 rfl 3) (show Bytes8 [172, 2, 255] by intro x hx; simp at hx; omega) (Nat.le_refl _) (by omega)
  have HG : Hid (∀ x n e, GetIs [172, 2, 255] x n e → x = 300 ∧ n = 2 ∧ e = 0) := fun x n e h => by
    have := get_vb (v := 300) (by omega) (by omega) (t := [255]) (x := x) (n := n) (e := e) (by rw [vb300]; exact h)
    rw [sz300] at this
    exact this
  clear hst hb1 hb2 hb3 hT hT1 hc1
  go_wp2_with fail
  refine hg.mono ?_
  rintro e w2 ⟨x, n, e, rfl, hgi, rfl⟩
  obtain ⟨rfl, rfl, rfl⟩ := HG.out x n e hgi
  clear hg hgi HG
  generalize w1.alloc (.cells #[.int .u8 172, .int .u8 2, .int .u8 255] 5) = w2 at *
  go_wp2_with fail
  refine (num_any _ _).mono ?_
  rintro e w3 ⟨rfl, rfl⟩
  go_wp2_with fail
  refine (num_any _ _).mono ?_
  rintro e w3 ⟨rfl, rfl⟩
  go_wp2_with fail
  refine (size_any 300 _ hT2 (by omega) (by omega)).mono ?_
  rintro e w3 ⟨rfl, rfl⟩
  rw [sz300]
  go_wp2
  go_ret
  exact ⟨rfl, hC⟩

end Go.Proofs.YtkjjcdkobapedaaDoor
