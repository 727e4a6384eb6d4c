/- Bytes with one behind them: the contracts of room and held; of no statement by themselves. -/
import Derived.Test.YtmgjbkgooekihaaDoorStr
namespace Go.Proofs.YtmgjbkgooekihaaDoor
open Go.RowKit

/-- As room lays it: the bytes, 77 behind them, in new memory. -/
structure Roomy (w : World) (g n cap : Nat) (ns : List Nat) : Prop where
  row : Row8 w (some ⟨g, 0, none⟩) (n + 1) cap (up (ns ++ [77]))
  fit : n + 1 ≤ cap

theorem Roomy.bytes {w : World} {g n cap : Nat} {ns : List Nat} (h : Roomy w g n cap ns) (hl : ns.length = n) : Row8 w (some ⟨g, 0, none⟩) n cap (up ns) := by
  have := row8_take h.row n (by omega)
  rw [← up_take, List.take_left' hl] at this
  exact this

theorem Roomy.new {w w' : World} {g n cap : Nat} {ns : List Nat} (h : Roomy w g n cap ns) (hc : Chg (fun _ => False) w w') : Roomy w' g n cap ns := ⟨row8_chg h.row hc, h.fit⟩

theorem Roomy.keep {w w' : World} {S : Nat → Prop} {g n cap : Nat} {ns : List Nat} (h : Roomy w g n cap ns) (hc : Chg S w w') (hS : ¬ S g) : Roomy w' g n cap ns :=
  ⟨row8_keep h.row hc (fun x e => by cases e; exact hS), h.fit⟩

set_option maxHeartbeats 1000000 in
theorem room_any (a : Option Addr) (n c : Nat) (ns : List Nat) (w : World) (hx : Row8 w a n c (up ns)) (hn : n ≤ 140737488351232) :
    Calls Tryd.prog 17 #[.slice a n c] w fun e w' => ∃ g cap, e = .returned (.slice (some ⟨g, 0, none⟩) n cap) ∧ Roomy w' g n cap ns ∧ w.heap.size ≤ g ∧ Chg (fun _ => False) w w' := by
  obtain ⟨i0, hi, hz0, hz1, hz2⟩ := info_parts info5
  have h0 := own_empty w
  have hc0 := chg_one w (.cells #[] 5)
  have hx0 := row8_chg hx hc0
  clear hx
  go_enter Tryd.func17, Tryd.ntmps17
  go_wp2_with (at_builtin; refine wpList_append_moved rfl _ _ 22 rfl w.heap.size 5 i0 (.int .u8 0) 1 1 Tryd.underlying22 hi hz0 hz1 hz2 rfl (by decide) _ 0 (cells8 []) rfl a n c rfl (cells8 (up ns)) h0 hx0.src (oneCells (up ns)) (by unfold maxLen; omega) (by omega) hc0.size ?_)
  intro v1 w1 ho1 hg1 _
  have hc1 : Chg (fun _ => False) w w1 := hc0.grown hg1 (fun k e => .inr ((h0.lt k e).1))
  rw [cells8_append, List.nil_append] at ho1
  obtain ⟨ba, bc, rfl, -, -⟩ := own_row8c ho1
  have hs1 := hc1.size
  clear hg1 h0 hc0 hx0
  go_wp2_with (at_builtin; refine wpList_append_moved rfl _ _ 22 rfl w.heap.size 5 i0 (.int .u8 0) 1 1 Tryd.underlying22 hi hz0 hz1 hz2 rfl (by decide) _ n (cells8 (up ns)) rfl (some ⟨w1.heap.size, 0, none⟩) 1 1 rfl [.int .u8 77] ((by simpa using ho1 : w1.ownsRow w.heap.size 5 1 (.slice ba n bc) n (cells8 (up ns))).alloc _) (row8_one w1 77 5).src (oneCells [77]) (by unfold maxLen; omega) (by omega) (by simp; omega) ?_)
  intro v2 w2 ho2 hg2 _
  have hc2 : Chg (fun _ => False) w w2 := (hc1.alloc _).grown hg2 (fun k e => .inr ((ho1.lt k (by simpa using e)).1))
  have ho3 : w2.ownsRow w.heap.size 5 1 v2 (n + 1) (cells8 (up (ns ++ [77]))) := by simpa [cells8, up] using ho2
  obtain ⟨g, cap, cur, rfl, hB, hg, hnc, _⟩ : ∃ g cap cur, v2 = .slice (some ⟨g, 0, none⟩) (n + 1) cap ∧ w.heap.size ≤ g ∧ w2.heap[g]? = some (.cells cur 5 (0, 0)) ∧ n + 1 ≤ cap ∧ True := by
    rcases ho3.2 with ⟨_, e⟩ | ⟨g, cap, cur, rfl, hB, hg, hnc, _⟩
    · omega
    · exact ⟨g, cap, cur, rfl, hB, hg, hnc, trivial⟩
  obtain ⟨ad, cp, he, hr, hf⟩ := own_row8c ho3
  simp only [Value.slice.injEq, true_and] at he
  obtain ⟨rfl, rfl⟩ := he
  have HR : Hid (Roomy w2 g n cap ns) := ⟨hr, hf⟩
  have HC : Hid (Chg (fun _ => False) w w2) := hc2
  have hfn : n ≤ cap := by omega
  clear hr ho3 ho2 hg2 ho1 hc1 hc2 hg
  go_wp2
  go_ret
  exact ⟨g, cap, rfl, HR.out, hB, HC.out⟩

set_option maxHeartbeats 1000000 in
theorem held_any (g n cap : Nat) (b : Option Addr) (c : Nat) (ns : List Nat) (w : World) (hl : Roomy w g n cap ns) (h : Row8 w b n c (up ns)) (hn : n ≤ 140737488351232) :
    Calls Tryd.prog 20 #[.slice (some ⟨g, 0, none⟩) n cap, .slice b n c] w fun e w' => e = .returned (.bool true) ∧ Chg (fun _ => False) w w' := by
  have hx : ns.length = n := by rw [← up_length]; exact h.1
  have hv1 := conv8 h
  have hv2 := conv8 (hl.bytes hx)
  have hfit := hl.fit
  have hfit2 : n ≤ cap := by omega
  have c1 : w.cell? ⟨g, n, none⟩ = some (.int .u8 77) := by
    rcases hl.row.2 with ⟨e, _⟩ | ⟨x, e, hx2⟩
    · cases e
    · cases e
      have hadd : (⟨g, 0, none⟩ : Addr).add n = ⟨g, n, none⟩ := by unfold Addr.add; split <;> simp_all
      rw [← hadd]
      exact hx2 n _ (by simp [up, hx])
  generalize strOfNums (up ns) = s at *
  clear hl h hx
  go_enter Tryd.func20, Tryd.ntmps20
  go_wp2_with fail
  go_quiet (fail)
  go_wp2
  go_ret
  exact ⟨rfl, ⟨rfl, rfl, rfl, Nat.le_refl _, fun _ _ _ => rfl⟩⟩
end Go.Proofs.YtmgjbkgooekihaaDoor
