/- The finder's New; of no statement by itself. -/
import Derived.Test.YtkdionoelbiidaaLi
import Derived.Carry
namespace Go.Proofs.Ytkdionoelbiidaa
open Go.RowKit
set_option linter.unusedVariables false

theorem eq_nil8_some (x : Addr) (n c : Nat) (w : World) : (binOp .eql 22 (.slice (some x) n c) (.slice none 0 0)).run Try.prog w = .ok (.bool false) w := by kernel_rfl
theorem eq_nil8_none (w : World) : (binOp .eql 22 (.slice none 0 0) (.slice none 0 0)).run Try.prog w = .ok (.bool true) w := by kernel_rfl
set_option maxHeartbeats 1000000 in
set_option maxRecDepth 100000 in
theorem bclone_any (x : Addr) (n c : Nat) (bs : List Nat) (w : World) (h : Row8 w (some x) n c (nums bs)) (hn : n ≤ 140737488355328) :
    Calls Try.prog 23 #[.slice (some x) n c] w fun e w' => ∃ v', e = .returned v' ∧ w'.ownsRow w.heap.size 5 1 v' bs.length (ins .u8 (nums bs)) ∧ Chg (fun _ => False) w w' := by
  obtain ⟨i0, hi, hz0, hz1, hz2⟩ := info_parts infoU8
  have hone := ins_one .u8 (nums bs)
  have hl : bs.length = n := by have := h.1; rw [nums_len] at this; exact this
  have c1 := chg_one w (.cells #[] 5)
  have hF1 : From _ (some x) n c 1 (ins .u8 (nums bs)) := (Bk.row8_chg h c1).src
  have hE := own_empty w 5
  have hs : w.heap.size ≤ (w.alloc (.cells #[] 5)).heap.size := c1.size
  have heq := eq_nil8_some x n c w
  clear h
  go_enter Try.func23, Try.ntmps23
  go_wp2_with (at_builtin; refine wpList_append_moved rfl _ _ 22 rfl w.heap.size 5 i0 (.int .u8 0) 1 1 Try.underlying22 hi hz0 hz1 hz2 rfl (by decide) _ 0 [] rfl (some x) n c rfl (ins .u8 (nums bs)) hE hF1 hone (by unfold maxLen; omega) (by omega) hs ?_)
  intro v2 w2 ho hg hm
  have HC : Hid (Chg (fun _ => False) w w2) := c1.grown hg (fun k e => .inr (hE.lt k e).1)
  have HO : Hid (w2.ownsRow w.heap.size 5 1 v2 bs.length (ins .u8 (nums bs))) := by
    show World.ownsRow _ _ _ _ _ _ _
    rw [hl]
    simpa using ho
  clear ho hg hm hE hF1 c1
  go_wp2
  go_ret
  exact ⟨_, rfl, HO.out, HC.out⟩
theorem clone_any (ad : Option Addr) (m c : Nat) (d : List Nat) (w : World) (h : Row8 w ad m c (nums d)) (hn : m ≤ 140737488355328) : Calls Try.prog 23 #[.slice ad m c] w fun e w' => ∃ v', e = .returned v' ∧ w'.ownsRow w.heap.size 5 1 v' d.length (ins .u8 (nums d)) ∧ Chg (fun _ => False) w w' := by
  rcases h.2 with ⟨rfl, rfl, rfl⟩ | ⟨x, rfl, _⟩
  · have hd : d = [] := List.eq_nil_of_length_eq_zero (by have := h.1; rw [nums_len] at this; exact this)
    subst hd
    have heq := eq_nil8_none w
    clear h
    go_enter Try.func23, Try.ntmps23
    go_wp2
    go_ret
    exact ⟨_, rfl, World.ownsRow_nil _ _ _ _, Chg.refl _ _⟩
  · exact bclone_any x m c d w h (by omega)
theorem new_out (ad : Option Addr) (m c : Nat) (n : Int) (w : World) (h : n < 1 ∨ 4294967295 < n) : Calls Try.prog 8 #[.slice ad m c, .int .i64 n] w fun e w' => e = .returned (.tuple #[.pointer none, .int .i64 6]) ∧ Chg (fun _ => False) w w' := by
  by_cases h1 : n < 1
  · have hd : decide (n < 1) = true := decide_eq_true h1
    clear h
    go_enter Try.func8, Try.ntmps8
    go_wp2
    go_ret2
    exact ⟨rfl, Chg.refl _ _⟩
  · have hd : decide (n < 1) = false := decide_eq_false h1
    have hd2 : decide (4294967295 < n) = true := decide_eq_true (by omega)
    clear h
    go_enter Try.func8, Try.ntmps8
    go_wp2
    go_ret2
    exact ⟨rfl, Chg.refl _ _⟩
set_option maxHeartbeats 1000000 in
open Classical in
theorem new_in (ad : Option Addr) (m c : Nat) (d : List Nat) (n : Nat) (w : World) (h : Row8 w ad m c (nums d)) (hdig : Rc.Dig d) (hmc : m ≤ c) (hm : m ≤ 140737488355328) (h1 : 1 ≤ n) (h2 : n ≤ 4294967295) : Calls Try.prog 8 #[.slice ad m c, .int .i64 (n : Int)] w fun e w' => ∃ γ a, e = .returned (.tuple #[.pointer (some ⟨a, 0, none⟩), .int .i64 0]) ∧ Fi γ w' w.heap.size a d n 0 ∧ Chg (fun _ => False) w w' := by
  have hd : decide ((n : Int) < 1) = false := by simp; omega
  have hd2 : decide ((4294967295 : Int) < (n : Int)) = false := by simp; omega
  have hni : (n : Int) ≤ 4294967295 := by omega
  have HCL : Hid _ := clone_any ad m c d w h hm
  have hdl : d.length = m := by have := h.1; rw [nums_len] at this; exact this
  have HDL : Hid (d.length = m) := hdl
  clear h hdl
  go_enter Try.func8, Try.ntmps8
  go_wp2_with fail
  refine Calls.mono HCL.out ?_
  rintro z w1 ⟨v, rfl, ho, c1⟩
  obtain ⟨da, dc, hv⟩ := formN ho
  subst hv
  have HO : Hid (w1.ownsRow w.heap.size 5 1 (.slice da d.length dc) d.length (ins .u8 (nums d))) := ho
  have HC1 : Hid (Chg (fun _ => False) w w1) := c1
  have hmk := run_makeMap (P := Try.prog) 58 w1
  clear ho c1
  go_wp2
  go_ret2
  have cM := chg_one w1 (.map #[] 0)
  have cB := chg_one (w1.alloc (.map #[] 0)) (.cells #[.slice da d.length dc, .int .i64 (n : Int), .int .i64 0, .map (some w1.heap.size)] 60)
  have cs := HC1.out.size
  have hL := Cuts.made w1 Try.prog 69 3 w.heap.size cs
  refine ⟨⟨w1.heap.size + 1, w1.heap.size, da, dc, fun _ => none, fun _ => none, 0, fun _ => []⟩, w1.heap.size + 1, rfl, ?_, chg_then (chg_then HC1.out cM) cB⟩
  refine ⟨rfl, by omega, ?_, ownsRow_keepN (ownsRow_keepN HO.out cM (fun _ _ f => f)) cB (fun _ _ f => f), ?_, fun f => ?_, fun g e => ⟨?_, fun f => ?_⟩, hdig, Nat.le_refl _, ⟨h1, h2, Nat.zero_le _, by rw [HDL.out]; exact hm⟩, Tok.nil⟩
  · have := heap_alloc_last (w1.alloc (.map #[] 0)) (.cells #[.slice da d.length dc, .int .i64 (n : Int), .int .i64 0, .map (some w1.heap.size)] 60)
    rw [World.size_alloc] at this
    exact this
  · exact hL.keep cB (fun _ _ f => f)
  · rcases f with e | ⟨xs, e⟩
    · have e3 : w1.heap.size + 1 = w1.heap.size := e
      omega
    · simp at e
  · have := (HO.out.lt g (by rw [show da = some ⟨g, 0, none⟩ from e]; rfl)).2
    omega
  · rcases f with e2 | ⟨xs, e2⟩
    · have := (HO.out.lt g (by rw [show da = some ⟨g, 0, none⟩ from e]; rfl)).2
      have e3 : g = w1.heap.size := e2
      omega
    · simp at e2
end Go.Proofs.Ytkdionoelbiidaa
