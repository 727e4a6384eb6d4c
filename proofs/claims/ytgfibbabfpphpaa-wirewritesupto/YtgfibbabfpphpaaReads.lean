/- The contract of the statements' own function reads, of no statement by itself. -/
import Derived.Test.YtgfibbabfpphpaaRefZeros
import Derived.Test.YtgfibbabfpphpaaHeld
import Derived.Deep.RegionHeld3
namespace Go.Proofs.Ytgfibbabfpphpaa
open Go.RowKit

/-- A reader of the program and one of the document side by side: the same list, the same place. -/
structure Two (B : Nat) (w : World) (a g ra rg : Nat) (xs : List Int) (off : Nat) : Prop where
  rd : Rd B w a g xs off
  rr : ∃ ad c, RR B w ra rg xs off ad c

theorem Two.ne {B : Nat} {w : World} {a g ra rg off : Nat} {xs : List Int} (h : Two B w a g ra rg xs off) : a ≠ ra ∧ g ≠ ra ∧ rg ≠ a ∧ rg ≠ ra := by
  obtain ⟨ad, c, hr⟩ := h.rr
  have h1 := h.rd.blk
  have h2 := hr.blk
  have h3 := h.rd.row
  obtain ⟨cur, h4, _⟩ := hr.row
  refine ⟨fun e => ?_, fun e => ?_, fun e => ?_, hr.ne⟩
  · rw [e, h2] at h1; simp at h1
  · rw [e, h2] at h3; simp at h3
  · rw [e, h1] at h4; simp at h4

theorem Two.keep {B : Nat} {w w' : World} {a g ra rg off : Nat} {xs : List Int} {S : Nat → Prop} (h : Two B w a g ra rg xs off) (hc : Chg S w w') (h1 : ¬ S a) (h2 : ¬ S g) (h3 : ¬ S ra) (h4 : ¬ S rg) : Two B w' a g ra rg xs off := by
  obtain ⟨ad, c, hr⟩ := h.rr
  exact ⟨h.rd.keep hc h1 h2, ad, c, hr.keep hc h3 h4⟩
theorem Two.new {B : Nat} {w w' : World} {a g ra rg off : Nat} {xs : List Int} (h : Two B w a g ra rg xs off) (hc : Chg (fun _ => False) w w') : Two B w' a g ra rg xs off := h.keep hc (fun f => f) (fun f => f) (fun f => f) (fun f => f)

/-- Behind a call on each of them. -/
theorem Two.both {B : Nat} {w1 w2 : World} {a g ra rg off' : Nat} {xs : List Int} {ad : Option Addr} {c : Nat} (h1 : a ≠ ra) (h2 : g ≠ ra) (hd : Rd B w1 a g xs off') (hc2 : Chg (fun k => k = ra) w1 w2) (hr : RR B w2 ra rg xs off' ad c) :
    Two B w2 a g ra rg xs off' := ⟨hd.keep hc2 h1 h2, ad, c, hr⟩

theorem chg_both {w w1 w2 : World} {a ra : Nat} {o : Obj} (hc1 : Chg (fun k => k = a) (w.alloc o) w1) (hc2 : Chg (fun k => k = ra) w1 w2) : Chg (fun k => k = a ∨ k = ra) w w2 :=
  ((chg_one _ w o).trans hc1 (fun _ e => .inl (.inl e))).trans hc2 (fun _ e => .inl (.inr e))

/-- The call's own copy of what is to be done. -/
def opObj (kind : Int) (two : Bool) (n v : Int) (ba : Option Addr) (bl bc : Nat) : Obj := .cells #[.int .i64 kind, .bool two, .int .i64 n, .int .u64 v, .slice ba bl bc] 47

theorem op_cell {w w1 : World} {a : Nat} {kind : Int} {two : Bool} {n v : Int} {ba : Option Addr} {bl bc : Nat} (hc : Chg (fun k => k = a) (w.alloc (.cells #[.int .i64 kind, .bool two, .int .i64 n, .int .u64 v, .slice ba bl bc] 47)) w1) (ha : a < w.heap.size) :
    w1.cell? ⟨w.heap.size, 2, none⟩ = some (.int .i64 n) := by
  have hb : w1.heap[w.heap.size]? = some (.cells #[.int .i64 kind, .bool two, .int .i64 n, .int .u64 v, .slice ba bl bc] 47 (0, 0)) := blk_keep (heap_alloc_new w _) hc (by omega)
  rw [World.cell?, hb]
  rfl

set_option maxRecDepth 100000 in
set_option maxHeartbeats 1000000 in
theorem reads_low_no (B a g ra rg off : Nat) (xs : List Int) (two : Bool) (n v : Int) (ba : Option Addr) (bl bc : Nat) (lv : Value) (w : World) (h : Two B w a g ra rg xs off) (hn : n < 1 ∨ 8 < n) :
    Calls Try.prog 30 #[.pointer (some ⟨a, 0, none⟩), .pointer (some ⟨ra, 0, none⟩), .agg #[.int .i64 1, .bool two, .int .i64 n, .int .u64 v, .slice ba bl bc], lv] w fun e w' => e = .returned (.tuple #[lv, .bool true]) ∧ (∃ off', Two B w' a g ra rg xs off') ∧ Chg (fun k => k = a ∨ k = ra) w w' := by
  obtain ⟨n1, n2, n3, n4⟩ := h.ne
  have hlt := h.rd.lt.1
  have hA := h.new (chg_one _ w (.cells #[.int .i64 1, .bool two, .int .i64 n, .int .u64 v, .slice ba bl bc] 47))
  clear h
  go_enter Try.func30, Try.ntmps30
  go_wp2_with fail
  refine (rlow_no _ _ _ hn).mono ?_
  rintro e w2 ⟨rfl, rfl⟩
  have hc1 := Chg.refl (fun k => k = a) (w.alloc (.cells #[.int .i64 1, .bool two, .int .i64 n, .int .u64 v, .slice ba bl bc] 47))
  have hd := hA.rd
  have hk2 := op_cell hc1 hlt
  obtain ⟨ad, c, hr⟩ := hA.rr
  have hr2 := hr.keep hc1 (fun e => n1 e.symm) n3
  clear hA hr
  go_wp2_with fail
  refine (refLow_no _ _ _ hn).mono ?_
  rintro e w3 ⟨rfl, rfl⟩
  have R := Two.mk (rg := rg) hd ⟨_, _, hr2⟩
  have C := chg_both hc1 (Chg.refl (fun k => k = ra) _)
  clear hr2 hk2 hc1 hd
  go_wp2
  go_ret2
  exact ⟨rfl, ⟨_, R⟩, C⟩

set_option maxRecDepth 100000 in
set_option maxHeartbeats 1000000 in
theorem reads_low_big (B a g ra rg off : Nat) (xs : List Int) (two : Bool) (n v : Int) (ba : Option Addr) (bl bc : Nat) (lv : Value) (w : World) (h : Two B w a g ra rg xs off) (h1 : 1 ≤ n) (h2 : n ≤ 8) (hb : (xs.length : Int) - off < n) :
    Calls Try.prog 30 #[.pointer (some ⟨a, 0, none⟩), .pointer (some ⟨ra, 0, none⟩), .agg #[.int .i64 1, .bool two, .int .i64 n, .int .u64 v, .slice ba bl bc], lv] w fun e w' => e = .returned (.tuple #[lv, .bool true]) ∧ (∃ off', Two B w' a g ra rg xs off') ∧ Chg (fun k => k = a ∨ k = ra) w w' := by
  obtain ⟨n1, n2, n3, n4⟩ := h.ne
  have hlt := h.rd.lt.1
  have hA := h.new (chg_one _ w (.cells #[.int .i64 1, .bool two, .int .i64 n, .int .u64 v, .slice ba bl bc] 47))
  clear h
  go_enter Try.func30, Try.ntmps30
  go_wp2_with fail
  refine (rlow_big _ _ _ _ _ _ _ hA.rd h1 h2 hb).mono ?_
  rintro e w2 ⟨rfl, hd, hc1⟩
  have hk2 := op_cell hc1 hlt
  obtain ⟨ad, c, hr⟩ := hA.rr
  have hr2 := hr.keep hc1 (fun e => n1 e.symm) n3
  clear hA hr
  go_wp2_with fail
  refine (refLow_big _ _ _ _ _ _ _ _ _ hr2 h1 h2 hb).mono ?_
  rintro e w3 ⟨rfl, ⟨ad3, hr3⟩, hc3⟩
  have R := Two.both n1 n2 hd hc3 hr3
  have C := chg_both hc1 hc3
  clear hr2 hk2 hc1 hd hc3 hr3
  go_wp2
  go_ret2
  exact ⟨rfl, ⟨_, R⟩, C⟩

set_option maxRecDepth 100000 in
set_option maxHeartbeats 1000000 in
theorem reads_low_ok (B a g ra rg off : Nat) (xs : List Int) (two : Bool) (n : Nat) (v : Int) (ba : Option Addr) (bl bc : Nat) (lv : Value) (w : World) (h : Two B w a g ra rg xs off) (ys : List Int) (h1 : 1 ≤ n) (h2 : n ≤ 8) (hb : off + n ≤ xs.length) (h8 : Bytes8 ys) (HY : Hid ((xs.drop off).take n = ys)) :
    Calls Try.prog 30 #[.pointer (some ⟨a, 0, none⟩), .pointer (some ⟨ra, 0, none⟩), .agg #[.int .i64 1, .bool two, .int .i64 n, .int .u64 v, .slice ba bl bc], lv] w fun e w' => e = .returned (.tuple #[lv, .bool true]) ∧ (∃ off', Two B w' a g ra rg xs off') ∧ Chg (fun k => k = a ∨ k = ra) w w' := by
  obtain ⟨n1, n2, n3, n4⟩ := h.ne
  have hlt := h.rd.lt.1
  have hA := h.new (chg_one _ w (.cells #[.int .i64 1, .bool two, .int .i64 n, .int .u64 v, .slice ba bl bc] 47))
  clear h
  go_enter Try.func30, Try.ntmps30
  go_wp2_with fail
  refine (rlow_core _ _ _ _ _ ys n _ hA.rd h1 h2 hb h8 HY).mono ?_
  rintro e w2 ⟨rfl, hd, hc1⟩
  have hk2 := op_cell hc1 hlt
  obtain ⟨ad, c, hr⟩ := hA.rr
  have hr2 := hr.keep hc1 (fun e => n1 e.symm) n3
  clear hA hr
  go_wp2_with fail
  refine (refLow_ok _ _ _ _ _ _ ys _ n _ hr2 h1 h2 hb h8 HY).mono ?_
  rintro e w3 ⟨rfl, ⟨ad3, c3, hr3⟩, hc3⟩
  have R := Two.both n1 n2 hd hc3 hr3
  have C := chg_both hc1 hc3
  clear hr2 hk2 hc1 hd hc3 hr3
  go_wp2
  go_ret2
  exact ⟨rfl, ⟨_, R⟩, C⟩

set_option maxRecDepth 100000 in
set_option maxHeartbeats 1000000 in
theorem reads_high_no (B a g ra rg off : Nat) (xs : List Int) (two : Bool) (n v : Int) (ba : Option Addr) (bl bc : Nat) (lv : Value) (w : World) (h : Two B w a g ra rg xs off) (hn : n < 1 ∨ 8 < n) :
    Calls Try.prog 30 #[.pointer (some ⟨a, 0, none⟩), .pointer (some ⟨ra, 0, none⟩), .agg #[.int .i64 2, .bool two, .int .i64 n, .int .u64 v, .slice ba bl bc], lv] w fun e w' => e = .returned (.tuple #[lv, .bool true]) ∧ (∃ off', Two B w' a g ra rg xs off') ∧ Chg (fun k => k = a ∨ k = ra) w w' := by
  obtain ⟨n1, n2, n3, n4⟩ := h.ne
  have hlt := h.rd.lt.1
  have hA := h.new (chg_one _ w (.cells #[.int .i64 2, .bool two, .int .i64 n, .int .u64 v, .slice ba bl bc] 47))
  clear h
  go_enter Try.func30, Try.ntmps30
  go_wp2_with fail
  refine (rhigh_no _ _ _ hn).mono ?_
  rintro e w2 ⟨rfl, rfl⟩
  have hc1 := Chg.refl (fun k => k = a) (w.alloc (.cells #[.int .i64 2, .bool two, .int .i64 n, .int .u64 v, .slice ba bl bc] 47))
  have hd := hA.rd
  have hk2 := op_cell hc1 hlt
  obtain ⟨ad, c, hr⟩ := hA.rr
  have hr2 := hr.keep hc1 (fun e => n1 e.symm) n3
  clear hA hr
  go_wp2_with fail
  refine (refHigh_no _ _ _ hn).mono ?_
  rintro e w3 ⟨rfl, rfl⟩
  have R := Two.mk (rg := rg) hd ⟨_, _, hr2⟩
  have C := chg_both hc1 (Chg.refl (fun k => k = ra) _)
  clear hr2 hk2 hc1 hd
  go_wp2
  go_ret2
  exact ⟨rfl, ⟨_, R⟩, C⟩

set_option maxRecDepth 100000 in
set_option maxHeartbeats 1000000 in
theorem reads_high_big (B a g ra rg off : Nat) (xs : List Int) (two : Bool) (n v : Int) (ba : Option Addr) (bl bc : Nat) (lv : Value) (w : World) (h : Two B w a g ra rg xs off) (h1 : 1 ≤ n) (h2 : n ≤ 8) (hb : (xs.length : Int) - off < n) :
    Calls Try.prog 30 #[.pointer (some ⟨a, 0, none⟩), .pointer (some ⟨ra, 0, none⟩), .agg #[.int .i64 2, .bool two, .int .i64 n, .int .u64 v, .slice ba bl bc], lv] w fun e w' => e = .returned (.tuple #[lv, .bool true]) ∧ (∃ off', Two B w' a g ra rg xs off') ∧ Chg (fun k => k = a ∨ k = ra) w w' := by
  obtain ⟨n1, n2, n3, n4⟩ := h.ne
  have hlt := h.rd.lt.1
  have hA := h.new (chg_one _ w (.cells #[.int .i64 2, .bool two, .int .i64 n, .int .u64 v, .slice ba bl bc] 47))
  clear h
  go_enter Try.func30, Try.ntmps30
  go_wp2_with fail
  refine (rhigh_big _ _ _ _ _ _ _ hA.rd h1 h2 hb).mono ?_
  rintro e w2 ⟨rfl, hd, hc1⟩
  have hk2 := op_cell hc1 hlt
  obtain ⟨ad, c, hr⟩ := hA.rr
  have hr2 := hr.keep hc1 (fun e => n1 e.symm) n3
  clear hA hr
  go_wp2_with fail
  refine (refHigh_big _ _ _ _ _ _ _ _ _ hr2 h1 h2 hb).mono ?_
  rintro e w3 ⟨rfl, ⟨ad3, hr3⟩, hc3⟩
  have R := Two.both n1 n2 hd hc3 hr3
  have C := chg_both hc1 hc3
  clear hr2 hk2 hc1 hd hc3 hr3
  go_wp2
  go_ret2
  exact ⟨rfl, ⟨_, R⟩, C⟩

set_option maxRecDepth 100000 in
set_option maxHeartbeats 1000000 in
theorem reads_high_ok (B a g ra rg off : Nat) (xs : List Int) (two : Bool) (n : Nat) (v : Int) (ba : Option Addr) (bl bc : Nat) (lv : Value) (w : World) (h : Two B w a g ra rg xs off) (ys : List Int) (h1 : 1 ≤ n) (h2 : n ≤ 8) (hb : off + n ≤ xs.length) (h8 : Bytes8 ys) (HY : Hid ((xs.drop off).take n = ys)) :
    Calls Try.prog 30 #[.pointer (some ⟨a, 0, none⟩), .pointer (some ⟨ra, 0, none⟩), .agg #[.int .i64 2, .bool two, .int .i64 n, .int .u64 v, .slice ba bl bc], lv] w fun e w' => e = .returned (.tuple #[lv, .bool true]) ∧ (∃ off', Two B w' a g ra rg xs off') ∧ Chg (fun k => k = a ∨ k = ra) w w' := by
  obtain ⟨n1, n2, n3, n4⟩ := h.ne
  have hlt := h.rd.lt.1
  have hA := h.new (chg_one _ w (.cells #[.int .i64 2, .bool two, .int .i64 n, .int .u64 v, .slice ba bl bc] 47))
  clear h
  go_enter Try.func30, Try.ntmps30
  go_wp2_with fail
  refine (rhigh_core _ _ _ _ _ ys n _ hA.rd h1 h2 hb h8 HY).mono ?_
  rintro e w2 ⟨rfl, hd, hc1⟩
  have hk2 := op_cell hc1 hlt
  obtain ⟨ad, c, hr⟩ := hA.rr
  have hr2 := hr.keep hc1 (fun e => n1 e.symm) n3
  clear hA hr
  go_wp2_with fail
  refine (refHigh_ok _ _ _ _ _ _ ys _ n _ hr2 h1 h2 hb h8 HY).mono ?_
  rintro e w3 ⟨rfl, ⟨ad3, c3, hr3⟩, hc3⟩
  have R := Two.both n1 n2 hd hc3 hr3
  have C := chg_both hc1 hc3
  clear hr2 hk2 hc1 hd hc3 hr3
  go_wp2
  go_ret2
  exact ⟨rfl, ⟨_, R⟩, C⟩

set_option maxRecDepth 100000 in
set_option maxHeartbeats 1000000 in
theorem reads_u8_end (B a g ra rg off : Nat) (xs : List Int) (two : Bool) (n v : Int) (ba : Option Addr) (bl bc : Nat) (lv : Value) (w : World) (h : Two B w a g ra rg xs off) (hb : xs.length = off) :
    Calls Try.prog 30 #[.pointer (some ⟨a, 0, none⟩), .pointer (some ⟨ra, 0, none⟩), .agg #[.int .i64 3, .bool two, .int .i64 n, .int .u64 v, .slice ba bl bc], lv] w fun e w' => e = .returned (.tuple #[lv, .bool true]) ∧ (∃ off', Two B w' a g ra rg xs off') ∧ Chg (fun k => k = a ∨ k = ra) w w' := by
  obtain ⟨n1, n2, n3, n4⟩ := h.ne
  have hlt := h.rd.lt.1
  have hA := h.new (chg_one _ w (.cells #[.int .i64 3, .bool two, .int .i64 n, .int .u64 v, .slice ba bl bc] 47))
  clear h
  go_enter Try.func30, Try.ntmps30
  go_wp2_with fail
  refine (u8_end _ _ _ _ _ _ hA.rd hb).mono ?_
  rintro e w2 ⟨rfl, hd, hc1⟩
  have hk2 := op_cell hc1 hlt
  obtain ⟨ad, c, hr⟩ := hA.rr
  have hr2 := hr.keep hc1 (fun e => n1 e.symm) n3
  clear hA hr
  go_wp2_with fail
  refine (refU8_end _ _ _ _ _ _ _ _ hr2 hb).mono ?_
  rintro e w3 ⟨rfl, ⟨ad3, c3, hr3⟩, hc3⟩
  have R := Two.both n1 n2 hd hc3 hr3
  have C := chg_both hc1 hc3
  clear hr2 hk2 hc1 hd hc3 hr3
  go_wp2
  go_ret2
  exact ⟨rfl, ⟨_, R⟩, C⟩

set_option maxRecDepth 100000 in
set_option maxHeartbeats 1000000 in
theorem reads_u8_ok (B a g ra rg off : Nat) (xs : List Int) (two : Bool) (n v : Int) (ba : Option Addr) (bl bc : Nat) (lv : Value) (w : World) (h : Two B w a g ra rg xs off) (x : Int) (hb : off < xs.length) (HX : Hid ((xs.drop off).take 1 = [x])) (hx : xs.getD off 0 = x) (h0 : 0 ≤ x) (h1 : x ≤ 255) :
    Calls Try.prog 30 #[.pointer (some ⟨a, 0, none⟩), .pointer (some ⟨ra, 0, none⟩), .agg #[.int .i64 3, .bool two, .int .i64 n, .int .u64 v, .slice ba bl bc], lv] w fun e w' => e = .returned (.tuple #[lv, .bool true]) ∧ (∃ off', Two B w' a g ra rg xs off') ∧ Chg (fun k => k = a ∨ k = ra) w w' := by
  obtain ⟨n1, n2, n3, n4⟩ := h.ne
  have hlt := h.rd.lt.1
  have hA := h.new (chg_one _ w (.cells #[.int .i64 3, .bool two, .int .i64 n, .int .u64 v, .slice ba bl bc] 47))
  clear h
  have HXX : Hid (xs.getD off 0 = x) := hx
  clear hx
  go_enter Try.func30, Try.ntmps30
  go_wp2_with fail
  refine (u8_ok _ _ _ _ _ x _ hA.rd hb HXX.out h0 h1).mono ?_
  rintro e w2 ⟨rfl, hd, hc1⟩
  have hk2 := op_cell hc1 hlt
  obtain ⟨ad, c, hr⟩ := hA.rr
  have hr2 := hr.keep hc1 (fun e => n1 e.symm) n3
  clear hA hr
  go_wp2_with fail
  refine (refU8_ok _ _ _ _ _ _ _ x _ hr2 hb HX h0 h1).mono ?_
  rintro e w3 ⟨rfl, ⟨ad3, c3, hr3⟩, hc3⟩
  have R := Two.both n1 n2 hd hc3 hr3
  have C := chg_both hc1 hc3
  clear hr2 hk2 hc1 hd hc3 hr3
  go_wp2
  go_ret2
  exact ⟨rfl, ⟨_, R⟩, C⟩


end Go.Proofs.Ytgfibbabfpphpaa
