/- The two tables in memory ('Tab'), words and bytes as cells, and the contract of rotated; of no statement by themselves. -/
import Derived.Test.YtnedllhlmddmoabDoorBase
import Derived.Test.YtnedllhlmddmoabDoorSha
import Derived.Laws.BitsAllLaws
import Derived.Deep.WholeRow
import Derived.Deep.QuietTactic
import Derived.BigQuiet
import Derived.BigRegion
namespace Go.Proofs.YtnedllhlmddmoabDoor
open Go.RowKit

/-- Words as cells. -/
def wds (l : List Nat) : List Value := l.map fun (n : Nat) => .int .u32 (n : Int)
/-- Bytes as cells. -/
def byts (l : List Nat) : List Value := l.map fun (n : Nat) => .int .u8 (n : Int)

theorem wds_len (l : List Nat) : (wds l).length = l.length := by simp [wds]
theorem byts_len (l : List Nat) : (byts l).length = l.length := by simp [byts]
theorem wds_at (l : List Nat) (k : Nat) (hk : k < l.length) : (wds l)[k]? = some (.int .u32 (l.getD k 0 : Nat)) := by simp [wds, hk]
theorem byts_at (l : List Nat) (k : Nat) (hk : k < l.length) : (byts l)[k]? = some (.int .u8 (l.getD k 0 : Nat)) := by simp [byts, hk]
theorem wds_set (l : List Nat) (k n : Nat) : (wds l).set k (.int .u32 (n : Nat)) = wds (l.set k n) := by simp [wds, List.map_set]
theorem byts_set (l : List Nat) (k n : Nat) : (byts l).set k (.int .u8 (n : Nat)) = byts (l.set k n) := by simp [byts, List.map_set]
theorem wds_one (l : List Nat) : (wds l).toArray.all (·.oneCell') = true := by
  rw [Array.all_eq_true_iff_forall_mem]
  intro v hv
  simp only [wds, List.mem_toArray, List.mem_map] at hv
  obtain ⟨_, _, rfl⟩ := hv
  rfl
theorem byts_one (l : List Nat) : (byts l).toArray.all (·.oneCell') = true := by
  rw [Array.all_eq_true_iff_forall_mem]
  intro v hv
  simp only [byts, List.mem_toArray, List.mem_map] at hv
  obtain ⟨_, _, rfl⟩ := hv
  rfl
theorem wds_size (l : List Nat) : (wds l).toArray.size = l.length := by simp [wds]
theorem byts_size (l : List Nat) : (byts l).toArray.size = l.length := by simp [byts]

theorem wds_cell {w : World} {g : Nat} {l : List Nat} {t : TypeId} {fr : Nat × Nat} (h : w.heap[g]? = some (.cells (wds l).toArray t fr)) (k : Nat) (hk : k < l.length) : w.cell? ⟨g, k, none⟩ = some (.int .u32 (l.getD k 0 : Nat)) := by
  rw [cell_of_row w g k _ t fr h]
  simpa using wds_at l k hk
theorem byts_cell {w : World} {g : Nat} {l : List Nat} {t : TypeId} {fr : Nat × Nat} (h : w.heap[g]? = some (.cells (byts l).toArray t fr)) (k : Nat) (hk : k < l.length) : w.cell? ⟨g, k, none⟩ = some (.int .u8 (l.getD k 0 : Nat)) := by
  rw [cell_of_row w g k _ t fr h]
  simpa using byts_at l k hk

theorem blk_setk {w : World} {a : Nat} {l : List Value} {t : TypeId} (h : w.heap[a]? = some (.cells l.toArray t (0, 0))) (k : Nat) (u : Value) : (w.setCell ⟨a, k, none⟩ u).heap[a]? = some (.cells (l.set k u).toArray t (0, 0)) := by
  have hlt := lt_of_blk h
  have h' : w.heap[a] = .cells l.toArray t (0, 0) := by simpa [Array.getElem?_eq_getElem hlt] using h
  show (w.heap.modify a _)[a]? = _
  rw [Array.getElem?_eq_getElem (by simpa using hlt), Array.getElem_modify_self, h']
  simp

theorem blk_keep {S : Nat → Prop} {w w' : World} {g : Nat} {o : Obj} (h : w.heap[g]? = some o) (hc : Chg S w w') (hS : ¬ S g) : w'.heap[g]? = some o := (hc.block g (lt_of_blk h) hS).trans h

theorem row8_chg {w w' : World} {ad : Option Addr} {m c : Nat} {xs : List Int} (h : Row8 w ad m c xs) (hc : Chg (fun _ => False) w w') : Row8 w' ad m c xs :=
  row8_keep h hc (fun _ _ f => f)

theorem chg_one (w : World) (o : Obj) : Chg (fun _ => False) w (w.alloc o) := (Chg.refl _ w).alloc o
theorem chg_then {a b c : World} (h : Chg (fun _ => False) a b) (k : Chg (fun _ => False) b c) : Chg (fun _ => False) a c := h.trans k (fun _ f => f.elim)

/-- The tables' blocks, as the program lays them. -/
structure Tab (w : World) : Prop where
  t0 : ∃ t fr, w.heap[0]? = some (.cells (wds Sha.I).toArray t fr)
  t1 : ∃ t fr, w.heap[1]? = some (.cells (wds Sha.K).toArray t fr)

theorem Tab.keep {w w' : World} {S : Nat → Prop} (h : Tab w) (hc : Chg S w w') (h0 : ¬ S 0) (h1 : ¬ S 1) : Tab w' := by
  obtain ⟨⟨t, fr, h2⟩, ⟨t', fr', h3⟩⟩ := h
  exact ⟨⟨t, fr, blk_keep h2 hc h0⟩, ⟨t', fr', blk_keep h3 hc h1⟩⟩

theorem Tab.new {w w' : World} (h : Tab w) (hc : Chg (fun _ => False) w w') : Tab w' := h.keep hc (fun f => f) (fun f => f)

theorem Tab.two {w : World} (h : Tab w) : 2 ≤ w.heap.size := by obtain ⟨_, _, h2⟩ := h.t1; exact lt_of_blk h2

/-- The constants' table alone. -/
structure TabK (w : World) : Prop where
  t1 : ∃ t fr, w.heap[1]? = some (.cells (wds Sha.K).toArray t fr)

theorem TabK.new {w w' : World} (h : TabK w) (hc : Chg (fun _ => False) w w') : TabK w' := by
  obtain ⟨t, fr, h1⟩ := h.t1
  exact ⟨t, fr, blk_keep h1 hc (fun f => f)⟩

theorem Tab.k {w : World} (h : Tab w) : TabK w := ⟨h.t1⟩

/-- A change of one block that is none of the tables. -/
theorem Tab.at {w w' : World} {a : Nat} (h : Tab w) (hc : Chg (fun k => k = a) w w') (ha : 2 ≤ a) : Tab w' := h.keep hc (by omega) (by omega)

theorem xor32 (a b : Nat) (ha : a < 4294967296) (hb : b < 4294967296) : bits .xor .u32 (a : Int) (b : Int) = ((a ^^^ b : Nat) : Int) := u32_xor_nat a b ha hb
theorem or32 (a b : Nat) (ha : a < 4294967296) (hb : b < 4294967296) : bits .or .u32 (a : Int) (b : Int) = ((a ||| b : Nat) : Int) := u32_or_nat a b ha hb
theorem and32 (a b : Nat) (ha : a < 4294967296) (hb : b < 4294967296) : bits .and .u32 (a : Int) (b : Int) = ((a &&& b : Nat) : Int) := u32_and_nat a b ha hb
theorem not32 (a : Nat) (ha : a < 4294967296) : bits .xor .u32 IntKind.u32.max (a : Int) = ((Sha.not a : Nat) : Int) := xor32 4294967295 a (by decide) ha
theorem wrap32 (a : Nat) : IntKind.u32.wrap (a : Int) = ((a % 4294967296 : Nat) : Int) := by
  have e2 : IntKind.u32.wrap (a : Int) = (a : Int) % 4294967296 := by simp [IntKind.wrap, IntKind.signed, IntKind.bits]
  rw [e2]
  omega
theorem add32 (a b : Nat) : IntKind.u32.wrap ((a : Int) + (b : Int)) = ((Sha.add a b : Nat) : Int) := wrap32 (a + b)

theorem shl32 (x k : Nat) : IntKind.u32.wrap ((x : Int) * (k : Int)) = ((x * k % 4294967296 : Nat) : Int) := by
  have := wrap32 (x * k)
  rw [← this]
  congr 1

/-- The turns that are asked for. -/
def turns : List Nat := [2, 6, 7, 11, 13, 17, 18, 19, 22, 25]

theorem turned_or (x n : Nat) (hx : x < 4294967296) : bits .or .u32 ((x : Int) * ((2 ^ (32 - n) : Nat) : Int) % 4294967296) ((x : Int) / ((2 ^ n : Nat) : Int)) = ((Sha.rotr x n : Nat) : Int) := by
  have h1 : (x : Int) * ((2 ^ (32 - n) : Nat) : Int) % 4294967296 = ((x * 2 ^ (32 - n) % 4294967296 : Nat) : Int) := by simp
  have h2 : (x : Int) / ((2 ^ n : Nat) : Int) = ((x / 2 ^ n : Nat) : Int) := by simp
  rw [h1, h2, or32 _ _ (Nat.mod_lt _ (by omega)) (Sha.div_lt _ hx), Nat.or_comm]
  rfl

set_option maxHeartbeats 1000000 in
theorem rotated_any (x n : Nat) (w : World) (hx : x < 4294967296) (hn : n ∈ turns) :
    Calls Tryd.prog 36 #[.int .u32 x, .int .i64 n] w fun e w' => e = .returned (.int .u32 (Sha.rotr x n : Nat)) ∧ w = w' := by
  have HT := turned_or x n hx
  simp only [turns, List.mem_cons, List.not_mem_nil, or_false] at hn
  rcases hn with rfl | rfl | rfl | rfl | rfl | rfl | rfl | rfl | rfl | rfl
  · have hs : bits .and .u64 (IntKind.u64.wrap (-2)) 31 = 30 := by decide +kernel
    have HR : Hid (bits .or .u32 ((x : Int) * 1073741824 % 4294967296) ((x : Int) / 4) = ((Sha.rotr x 2 : Nat) : Int)) := HT
    clear HT
    generalize Sha.rotr x 2 = y at *
    go_enter Tryd.func36, Tryd.ntmps36
    go_wp2_with fail
    go_enter Tryd.func38, Tryd.ntmps38
    go_wp2
    go_ret
    exact ⟨by rw [← HR.out]; rfl, rfl⟩
  · have hs : bits .and .u64 (IntKind.u64.wrap (-6)) 31 = 26 := by decide +kernel
    have HR : Hid (bits .or .u32 ((x : Int) * 67108864 % 4294967296) ((x : Int) / 64) = ((Sha.rotr x 6 : Nat) : Int)) := HT
    clear HT
    generalize Sha.rotr x 6 = y at *
    go_enter Tryd.func36, Tryd.ntmps36
    go_wp2_with fail
    go_enter Tryd.func38, Tryd.ntmps38
    go_wp2
    go_ret
    exact ⟨by rw [← HR.out]; rfl, rfl⟩
  · have hs : bits .and .u64 (IntKind.u64.wrap (-7)) 31 = 25 := by decide +kernel
    have HR : Hid (bits .or .u32 ((x : Int) * 33554432 % 4294967296) ((x : Int) / 128) = ((Sha.rotr x 7 : Nat) : Int)) := HT
    clear HT
    generalize Sha.rotr x 7 = y at *
    go_enter Tryd.func36, Tryd.ntmps36
    go_wp2_with fail
    go_enter Tryd.func38, Tryd.ntmps38
    go_wp2
    go_ret
    exact ⟨by rw [← HR.out]; rfl, rfl⟩
  · have hs : bits .and .u64 (IntKind.u64.wrap (-11)) 31 = 21 := by decide +kernel
    have HR : Hid (bits .or .u32 ((x : Int) * 2097152 % 4294967296) ((x : Int) / 2048) = ((Sha.rotr x 11 : Nat) : Int)) := HT
    clear HT
    generalize Sha.rotr x 11 = y at *
    go_enter Tryd.func36, Tryd.ntmps36
    go_wp2_with fail
    go_enter Tryd.func38, Tryd.ntmps38
    go_wp2
    go_ret
    exact ⟨by rw [← HR.out]; rfl, rfl⟩
  · have hs : bits .and .u64 (IntKind.u64.wrap (-13)) 31 = 19 := by decide +kernel
    have HR : Hid (bits .or .u32 ((x : Int) * 524288 % 4294967296) ((x : Int) / 8192) = ((Sha.rotr x 13 : Nat) : Int)) := HT
    clear HT
    generalize Sha.rotr x 13 = y at *
    go_enter Tryd.func36, Tryd.ntmps36
    go_wp2_with fail
    go_enter Tryd.func38, Tryd.ntmps38
    go_wp2
    go_ret
    exact ⟨by rw [← HR.out]; rfl, rfl⟩
  · have hs : bits .and .u64 (IntKind.u64.wrap (-17)) 31 = 15 := by decide +kernel
    have HR : Hid (bits .or .u32 ((x : Int) * 32768 % 4294967296) ((x : Int) / 131072) = ((Sha.rotr x 17 : Nat) : Int)) := HT
    clear HT
    generalize Sha.rotr x 17 = y at *
    go_enter Tryd.func36, Tryd.ntmps36
    go_wp2_with fail
    go_enter Tryd.func38, Tryd.ntmps38
    go_wp2
    go_ret
    exact ⟨by rw [← HR.out]; rfl, rfl⟩
  · have hs : bits .and .u64 (IntKind.u64.wrap (-18)) 31 = 14 := by decide +kernel
    have HR : Hid (bits .or .u32 ((x : Int) * 16384 % 4294967296) ((x : Int) / 262144) = ((Sha.rotr x 18 : Nat) : Int)) := HT
    clear HT
    generalize Sha.rotr x 18 = y at *
    go_enter Tryd.func36, Tryd.ntmps36
    go_wp2_with fail
    go_enter Tryd.func38, Tryd.ntmps38
    go_wp2
    go_ret
    exact ⟨by rw [← HR.out]; rfl, rfl⟩
  · have hs : bits .and .u64 (IntKind.u64.wrap (-19)) 31 = 13 := by decide +kernel
    have HR : Hid (bits .or .u32 ((x : Int) * 8192 % 4294967296) ((x : Int) / 524288) = ((Sha.rotr x 19 : Nat) : Int)) := HT
    clear HT
    generalize Sha.rotr x 19 = y at *
    go_enter Tryd.func36, Tryd.ntmps36
    go_wp2_with fail
    go_enter Tryd.func38, Tryd.ntmps38
    go_wp2
    go_ret
    exact ⟨by rw [← HR.out]; rfl, rfl⟩
  · have hs : bits .and .u64 (IntKind.u64.wrap (-22)) 31 = 10 := by decide +kernel
    have HR : Hid (bits .or .u32 ((x : Int) * 1024 % 4294967296) ((x : Int) / 4194304) = ((Sha.rotr x 22 : Nat) : Int)) := HT
    clear HT
    generalize Sha.rotr x 22 = y at *
    go_enter Tryd.func36, Tryd.ntmps36
    go_wp2_with fail
    go_enter Tryd.func38, Tryd.ntmps38
    go_wp2
    go_ret
    exact ⟨by rw [← HR.out]; rfl, rfl⟩
  · have hs : bits .and .u64 (IntKind.u64.wrap (-25)) 31 = 7 := by decide +kernel
    have HR : Hid (bits .or .u32 ((x : Int) * 128 % 4294967296) ((x : Int) / 33554432) = ((Sha.rotr x 25 : Nat) : Int)) := HT
    clear HT
    generalize Sha.rotr x 25 = y at *
    go_enter Tryd.func36, Tryd.ntmps36
    go_wp2_with fail
    go_enter Tryd.func38, Tryd.ntmps38
    go_wp2
    go_ret
    exact ⟨by rw [← HR.out]; rfl, rfl⟩
end Go.Proofs.YtnedllhlmddmoabDoor
