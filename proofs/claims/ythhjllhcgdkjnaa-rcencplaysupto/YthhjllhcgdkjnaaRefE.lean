/- The document's own encoder in memory ('Re') and the contracts of its New, Size, Bytes, adds, widens; of no statement by themselves. -/
import Derived.Test.YthhjllhcgdkjnaaRefSet
import Derived.Test.YthhjllhcgdkjnaaFork
import Derived.Test.YthhjllhcgdkjnaaRc
namespace Go.Proofs.Ythhjllhcgdkjnaa
open Go.RowKit
set_option linter.unusedVariables false

/-- Natural numbers as the model's. -/
def nums (l : List Nat) : List Int := l.map fun (n : Nat) => (n : Int)
theorem nums_len (l : List Nat) : (nums l).length = l.length := by simp [nums]
theorem nums_at (l : List Nat) (j : Nat) (h : j < l.length) : (nums l)[j]'(by rw [nums_len]; exact h) = (l[j] : Int) := by simp [nums]
theorem nums_set (l : List Nat) (j x : Nat) : (nums l).set j (x : Int) = nums (l.set j x) := by simp [nums, List.map_set]

/-- The document's encoder at r: its digits ds (the slice v), its range, its shifts. -/
structure Re (w : World) (B r : Nat) (v : Value) (ds : List Nat) (R k : Nat) : Prop where
  hr : B ≤ r
  blk : w.heap[r]? = some (.cells #[v, .int .u32 (R : Int), .int .i64 (k : Int)] 94 (0, 0))
  own : w.ownsRow B 5 1 v ds.length (ins .u8 (nums ds))
  dig : Rc.Dig ds
theorem Re.keep {w w' : World} {S : Nat → Prop} {B r : Nat} {v : Value} {ds : List Nat} {R k : Nat} (h : Re w B r v ds R k) (hc : Chg S w w') (hr : ¬ S r) (hv : ∀ g, v.ownBlock = some g → ¬ S g) : Re w' B r v ds R k :=
  ⟨h.hr, blk_keep h.blk hc hr, ownsRow_keep h.own hc hv, h.dig⟩
theorem Re.new {w w' : World} {B r : Nat} {v : Value} {ds : List Nat} {R k : Nat} (h : Re w B r v ds R k) (hc : Chg (fun _ => False) w w') : Re w' B r v ds R k := h.keep hc (fun f => f) (fun _ _ f => f)

theorem cells3 {w : World} {a : Nat} {x y z : Value} {t : TypeId} (h : w.heap[a]? = some (.cells #[x, y, z] t (0, 0))) : w.cell? ⟨a, 0, none⟩ = some x ∧ w.cell? ⟨a, 1, none⟩ = some y ∧ w.cell? ⟨a, 2, none⟩ = some z ∧ ∀ j, w.frozen? ⟨a, j, none⟩ = false :=
  ⟨by simp [World.cell?, h], by simp [World.cell?, h], by simp [World.cell?, h], fun j => by simp [World.frozen?, h]⟩

theorem infoU8 : (Try.prog.info? 5).map (fun i => (i.zero, i.size, i.bytes)) = some (some (.int .u8 0), 1, 1) := by kernel_rfl

theorem resize_any (B r : Nat) (v : Value) (ds : List Nat) (R k : Nat) (w : World) (h : Re w B r v ds R k) (hk : k ≤ 4611686018427387904) : Calls Try.prog 25 #[.pointer (some ⟨r, 0, none⟩)] w fun e w' => e = .returned (.int .i64 ((k + 5 : Nat) : Int)) ∧ w = w' := by
  obtain ⟨_, _, c2, _⟩ := cells3 h.blk
  clear h
  go_enter Try.func25, Try.ntmps25
  go_wp2
  go_ret
  exact ⟨by simp, rfl⟩

set_option maxHeartbeats 1000000 in
set_option maxRecDepth 100000 in
theorem renew_any (w : World) : Calls Try.prog 22 #[] w fun e w' => ∃ r v, e = .returned (.pointer (some ⟨r, 0, none⟩)) ∧ w.heap.size ≤ r ∧ Re w' w.heap.size r v (List.replicate 5 0) 4294967295 0 ∧ Chg (fun _ => False) w w' := by
  obtain ⟨i0, hi, hz0, hz1, hz2⟩ := info_parts infoU8
  go_enter Try.func22, Try.ntmps22
  go_wp2_with (at_make; refine wpList_make_full _ rfl _ _ 29 rfl w.heap.size 5 i0 (.int .u8 0) 1 Try.underlying29 hi hz0 hz1 .i64 .i64 _ _ 5 rfl rfl rfl rfl (by rw [hz2]; omega) (by unfold maxLen; omega) (Nat.le_refl _) ?_)
  intro w1 ho hg
  have c1 : Chg (fun _ => False) w w1 := (Chg.refl _ w).grown hg (fun k e => by cases e)
  have c2 := chg_one w1 (.cells #[.slice (some ⟨w.heap.size, 0, none⟩) 5 5, .int .u32 4294967295, .int .i64 0] 94)
  have HO : Hid (w1.ownsRow w.heap.size 5 1 (.slice (some ⟨w.heap.size, 0, none⟩) 5 5) 5 (ins .u8 (nums (List.replicate 5 0)))) := by
    rw [toList_madeCells_one] at ho
    exact ho
  have HC : Hid (Chg (fun _ => False) w w1) := c1
  clear ho hg c1
  go_wp2
  go_ret
  exact ⟨_, _, rfl, HC.out.size, ⟨HC.out.size, heap_alloc_last w1 _, ownsRow_keep HO.out c2 (fun _ _ f => f), fun x hx => by obtain ⟨_, rfl⟩ := List.mem_replicate.1 hx; omega⟩, chg_then HC.out c2⟩

set_option maxHeartbeats 1000000 in
set_option maxRecDepth 100000 in
theorem rebytes_any (B r : Nat) (v : Value) (ds : List Nat) (R k : Nat) (w : World) (h : Re w B r v ds R k) (hl : ds.length ≤ 140737488355328) : Calls Try.prog 26 #[.pointer (some ⟨r, 0, none⟩)] w fun e w' => ∃ v', e = .returned v' ∧ w'.ownsRow w.heap.size 5 1 v' ds.length (ins .u8 (nums ds)) ∧ Chg (fun _ => False) w w' := by
  obtain ⟨i0, hi, hz0, hz1, hz2⟩ := info_parts infoU8
  have hone := ins_one .u8 (nums ds)
  obtain ⟨ad, cap, rfl, _⟩ := own_any h.own
  have c0 := (cells3 h.blk).1
  have hF := own_from h.own
  clear h
  go_enter Try.func26, Try.ntmps26
  go_wp2_with (at_builtin; refine wpList_append_moved rfl _ _ 29 rfl w.heap.size 5 i0 (.int .u8 0) 1 1 Try.underlying29 hi hz0 hz1 hz2 rfl (by decide) _ 0 [] rfl ad ds.length cap rfl (ins .u8 (nums ds)) (World.ownsRow_nil _ _ _ _) hF hone (by unfold maxLen; omega) (by omega) (Nat.le_refl _) ?_)
  intro v2 w2 ho hg hm
  have HC : Hid (Chg (fun _ => False) w w2) := (Chg.refl _ w).grown hg (fun k e => by cases e)
  have HO : Hid (w2.ownsRow w.heap.size 5 1 v2 ds.length (ins .u8 (nums ds))) := by
    show w2.ownsRow w.heap.size 5 1 v2 ds.length (ins .u8 (nums ds))
    simpa using ho
  clear ho hg hm hF c0
  obtain ⟨ad2, cap2, rfl, _⟩ := own_any HO.out
  go_wp2
  go_ret
  exact ⟨_, rfl, HO.out, HC.out⟩
end Go.Proofs.Ythhjllhcgdkjnaa
