/- The contract of the statements' own function reads at Zeros, Off and Left, of no statement by itself. -/
import Derived.Test.YtgfibbabfpphpaaReads
namespace Go.Proofs.Ytgfibbabfpphpaa
open Go.RowKit

theorem cell_after {a : Nat} {w w' : World} {p : Addr} {v : Value} (hc : Chg (fun k => k = a) w w') (hk : w.cell? p = some v) (hne : p.block ≠ a) : w'.cell? p = some v := by
  rw [World.cell?_of_block (hc.block p.block (World.block_lt_of_cell? w p hk) hne)]
  exact hk

theorem off_quiet (B a g off : Nat) (xs : List Int) (w : World) (k : Nat) (h : Rd B w a g xs off) : Calls Try.prog 13 #[.pointer (some ⟨a, 0, none⟩)] (w.drewN k) fun e w'' => e = .returned (.int .i64 off) ∧ ∃ m, w'' = w.drewN m :=
  (off_any B a g off xs (w.drewN k) (h.draw k)).mono fun _ _ ⟨h1, h2⟩ => ⟨h1, k, h2.symm⟩
theorem left_quiet (B a g off : Nat) (xs : List Int) (w : World) (k : Nat) (h : Rd B w a g xs off) : Calls Try.prog 10 #[.pointer (some ⟨a, 0, none⟩)] (w.drewN k) fun e w'' => e = .returned (.int .i64 ((xs.length - off : Nat) : Int)) ∧ ∃ m, w'' = w.drewN m :=
  (left_i B a g off xs _ (w.drewN k) (h.draw k) (by have := h.le; omega)).mono fun _ _ ⟨h1, m, h2⟩ => ⟨h1, k + m, by rw [h2, World.drewN_drewN]⟩

set_option maxRecDepth 100000 in
set_option maxHeartbeats 1000000 in
theorem reads_len (B a g ra rg off : Nat) (xs : List Int) (two : Bool) (n v : Int) (ba : Option Addr) (bl bc : Nat) (lv : Value) (w : World) (h : Two B w a g ra rg xs off) :
    Calls Try.prog 30 #[.pointer (some ⟨a, 0, none⟩), .pointer (some ⟨ra, 0, none⟩), .agg #[.int .i64 5, .bool two, .int .i64 n, .int .u64 v, .slice ba bl bc], lv] w fun e w' => e = .returned (.tuple #[lv, .bool true]) ∧ (∃ off', Two B w' a g ra rg xs off') ∧ Chg (fun k => k = a ∨ k = ra) w w' := by
  have hA := h.new (chg_one _ w (.cells #[.int .i64 5, .bool two, .int .i64 n, .int .u64 v, .slice ba bl bc] 47))
  have hC : Chg (fun k => k = a ∨ k = ra) w (w.alloc (.cells #[.int .i64 5, .bool two, .int .i64 n, .int .u64 v, .slice ba bl bc] 47)) := chg_one _ w _
  clear h
  obtain ⟨ad, c, hr⟩ := hA.rr
  have hd := hA.rd
  have c0 := cell0 hr.blk
  have c1 := cell1 hr.blk
  have hle := hr.le
  have HT : Hid (∀ k, Two B ((w.alloc (.cells #[.int .i64 5, .bool two, .int .i64 n, .int .u64 v, .slice ba bl bc] 47)).drewN k) a g ra rg xs off) := fun k => hA.new (chg_drewN _ k)
  go_enter Try.func30, Try.ntmps30
  go_wp2_with fail
  go_quiet (first | (go_at_call 13; exact off_quiet B a g off xs _ _ hd) | (go_at_call 10; exact left_quiet B a g off xs _ _ hd))
  clear hA hr hd c0 c1
  go_wp2
  go_ret2
  exact ⟨rfl, ⟨_, HT.out nq⟩, chg_then hC (chg_drewN _ nq)⟩

set_option maxRecDepth 100000 in
set_option maxHeartbeats 1000000 in
theorem reads_zeros_neg (B a g ra rg off : Nat) (xs : List Int) (two : Bool) (n v : Int) (ba : Option Addr) (bl bc : Nat) (lv : Value) (w : World) (h : Two B w a g ra rg xs off) (hn : n < 0) :
    Calls Try.prog 30 #[.pointer (some ⟨a, 0, none⟩), .pointer (some ⟨ra, 0, none⟩), .agg #[.int .i64 4, .bool two, .int .i64 n, .int .u64 v, .slice ba bl bc], lv] w fun e w' => e = .returned (.tuple #[lv, .bool true]) ∧ (∃ off', Two B w' a g ra rg xs off') ∧ Chg (fun k => k = a ∨ k = ra) w w' := by
  obtain ⟨n1, n2, n3, n4⟩ := h.ne
  have hlt := h.rd.lt.1
  have hA := h.new (chg_one _ w (.cells #[.int .i64 4, .bool two, .int .i64 n, .int .u64 v, .slice ba bl bc] 47))
  have hk2 := op_cell (Chg.refl (fun k => k = a) (w.alloc (.cells #[.int .i64 4, .bool two, .int .i64 n, .int .u64 v, .slice ba bl bc] 47))) hlt
  have hC : Chg (fun k => k = a ∨ k = ra) w (w.alloc (.cells #[.int .i64 4, .bool two, .int .i64 n, .int .u64 v, .slice ba bl bc] 47)) := chg_one _ w _
  clear h
  go_enter Try.func30, Try.ntmps30
  go_wp2_with fail
  obtain ⟨ad, c, hr⟩ := hA.rr
  have hd := hA.rd
  clear hA
  have hNa : w.heap.size ≠ ra := fun e => by
    have h1 := hr.blk
    rw [← e, heap_alloc_new] at h1
    simp at h1
  have hNb : w.heap.size ≠ a := fun e => by omega
  go_region_held3 (fun w' => w'.cell? ⟨w.heap.size, 2, none⟩ = some (.int .i64 n)) (first | go_keep | assumption) (first | (go_at_call 12; refine (rzeros_neg _ _ _ hn).mono ?_; rintro e w2 ⟨rfl, rfl⟩) | (go_at_call 50; refine (refZeros_neg B ra rg off c xs ad n _ (hr.new (by exact ⟨rfl, rfl, rfl, Nat.le_refl _, fun _ _ _ => rfl⟩)) hn).mono ?_; rintro e w3 ⟨rfl, ⟨ad3, c3, hr3⟩, hc3⟩; have hk3 := cell_after hc3 (p := ⟨w.heap.size, 2, none⟩) (by exact hk2) hNa))
  clear hk2
  go_wp2
  go_ret2
  exact ⟨rfl, ⟨_, Two.both n1 n2 (hd.chg (by exact ⟨rfl, rfl, rfl, Nat.le_refl _, fun _ _ _ => rfl⟩)) hc3 hr3⟩, (hC.trans (T := fun _ => False) (by exact ⟨rfl, rfl, rfl, Nat.le_refl _, fun _ _ _ => rfl⟩) (fun _ f => f.elim)).trans hc3 (fun _ e => .inl (.inr e))⟩

set_option maxRecDepth 100000 in
set_option maxHeartbeats 1000000 in
theorem reads_zeros_big (B a g ra rg off : Nat) (xs : List Int) (two : Bool) (n v : Int) (ba : Option Addr) (bl bc : Nat) (lv : Value) (w : World) (h : Two B w a g ra rg xs off) (hn : 0 ≤ n) (hb : (xs.length : Int) - off < n) :
    Calls Try.prog 30 #[.pointer (some ⟨a, 0, none⟩), .pointer (some ⟨ra, 0, none⟩), .agg #[.int .i64 4, .bool two, .int .i64 n, .int .u64 v, .slice ba bl bc], lv] w fun e w' => e = .returned (.tuple #[lv, .bool true]) ∧ (∃ off', Two B w' a g ra rg xs off') ∧ Chg (fun k => k = a ∨ k = ra) w w' := by
  obtain ⟨n1, n2, n3, n4⟩ := h.ne
  have hlt := h.rd.lt.1
  have hA := h.new (chg_one _ w (.cells #[.int .i64 4, .bool two, .int .i64 n, .int .u64 v, .slice ba bl bc] 47))
  have hk2 := op_cell (Chg.refl (fun k => k = a) (w.alloc (.cells #[.int .i64 4, .bool two, .int .i64 n, .int .u64 v, .slice ba bl bc] 47))) hlt
  have hC : Chg (fun k => k = a ∨ k = ra) w (w.alloc (.cells #[.int .i64 4, .bool two, .int .i64 n, .int .u64 v, .slice ba bl bc] 47)) := chg_one _ w _
  clear h
  go_enter Try.func30, Try.ntmps30
  go_wp2_with fail
  obtain ⟨ad, c, hr⟩ := hA.rr
  have hd := hA.rd
  clear hA
  have hNa : w.heap.size ≠ ra := fun e => by
    have h1 := hr.blk
    rw [← e, heap_alloc_new] at h1
    simp at h1
  have hNb : w.heap.size ≠ a := fun e => by omega
  go_region_held3 (fun w' => w'.cell? ⟨w.heap.size, 2, none⟩ = some (.int .i64 n)) (first | go_keep | assumption) (first | (go_at_call 12; refine (rzeros_big B a g off xs n _ (hd.chg (by exact ⟨rfl, rfl, rfl, Nat.le_refl _, fun _ _ _ => rfl⟩)) hn hb).mono ?_; rintro e w2 ⟨rfl, q2, rfl⟩) | (go_at_call 50; refine (refZeros_big B ra rg off c xs ad n _ (hr.new (by exact ⟨rfl, rfl, rfl, Nat.le_refl _, fun _ _ _ => rfl⟩)) hn hb).mono ?_; rintro e w3 ⟨rfl, ⟨ad3, c3, hr3⟩, hc3⟩; have hk3 := cell_after hc3 (p := ⟨w.heap.size, 2, none⟩) (by exact hk2) hNa))
  clear hk2
  go_wp2
  go_ret2
  exact ⟨rfl, ⟨_, Two.both n1 n2 (hd.chg (by exact ⟨rfl, rfl, rfl, Nat.le_refl _, fun _ _ _ => rfl⟩)) hc3 hr3⟩, (hC.trans (T := fun _ => False) (by exact ⟨rfl, rfl, rfl, Nat.le_refl _, fun _ _ _ => rfl⟩) (fun _ f => f.elim)).trans hc3 (fun _ e => .inl (.inr e))⟩

set_option maxRecDepth 100000 in
set_option maxHeartbeats 1000000 in
theorem reads_zeros_ok (B a g ra rg off : Nat) (xs : List Int) (two : Bool) (n : Nat) (v : Int) (ba : Option Addr) (bl bc : Nat) (lv : Value) (w : World) (h : Two B w a g ra rg xs off) (ys : List Int) (hb : off + n ≤ xs.length) (HY : Hid ((xs.drop off).take n = ys)) (HZ : Hid (∀ k, k < n → ys.getD k 0 = 0)) :
    Calls Try.prog 30 #[.pointer (some ⟨a, 0, none⟩), .pointer (some ⟨ra, 0, none⟩), .agg #[.int .i64 4, .bool two, .int .i64 n, .int .u64 v, .slice ba bl bc], lv] w fun e w' => e = .returned (.tuple #[lv, .bool true]) ∧ (∃ off', Two B w' a g ra rg xs off') ∧ Chg (fun k => k = a ∨ k = ra) w w' := by
  obtain ⟨n1, n2, n3, n4⟩ := h.ne
  have hlt := h.rd.lt.1
  have hA := h.new (chg_one _ w (.cells #[.int .i64 4, .bool two, .int .i64 n, .int .u64 v, .slice ba bl bc] 47))
  have hk2 := op_cell (Chg.refl (fun k => k = a) (w.alloc (.cells #[.int .i64 4, .bool two, .int .i64 n, .int .u64 v, .slice ba bl bc] 47))) hlt
  have hC : Chg (fun k => k = a ∨ k = ra) w (w.alloc (.cells #[.int .i64 4, .bool two, .int .i64 n, .int .u64 v, .slice ba bl bc] 47)) := chg_one _ w _
  clear h
  go_enter Try.func30, Try.ntmps30
  go_wp2_with fail
  obtain ⟨ad, c, hr⟩ := hA.rr
  have hd := hA.rd
  clear hA
  have hNa : w.heap.size ≠ ra := fun e => by
    have h1 := hr.blk
    rw [← e, heap_alloc_new] at h1
    simp at h1
  have hNb : w.heap.size ≠ a := fun e => by omega
  go_region_held3 (fun w' => w'.cell? ⟨w.heap.size, 2, none⟩ = some (.int .i64 n)) (first | go_keep | assumption) (first | (go_at_call 12; refine (rzeros_ok B a g off xs ys n _ (hd.chg (by exact ⟨rfl, rfl, rfl, Nat.le_refl _, fun _ _ _ => rfl⟩)) hb HY HZ).mono ?_; rintro e w2 ⟨rfl, hd2, hc2⟩; have hk22 := cell_after hc2 (p := ⟨w.heap.size, 2, none⟩) (by exact hk2) hNb; have hr2 := (hr.new (w' := _) (by exact ⟨rfl, rfl, rfl, Nat.le_refl _, fun _ _ _ => rfl⟩)).keep hc2 (fun e => n1 e.symm) n3) | (go_at_call 50; refine (refZeros_ok B ra rg off c xs ys ad n _ hr2 hb HY HZ).mono ?_; rintro e w3 ⟨rfl, ⟨ad3, c3, hr3⟩, hc3⟩; have hk3 := cell_after hc3 (p := ⟨w.heap.size, 2, none⟩) hk22 hNa))
  clear hk2
  go_wp2
  go_ret2
  exact ⟨rfl, ⟨_, Two.both n1 n2 hd2 hc3 hr3⟩, ((hC.trans (T := fun _ => False) (by exact ⟨rfl, rfl, rfl, Nat.le_refl _, fun _ _ _ => rfl⟩) (fun _ f => f.elim)).trans hc2 (fun _ e => .inl (.inl e))).trans hc3 (fun _ e => .inl (.inr e))⟩

set_option maxRecDepth 100000 in
set_option maxHeartbeats 1000000 in
theorem reads_zeros_bad (B a g ra rg off : Nat) (xs : List Int) (two : Bool) (n : Nat) (v : Int) (ba : Option Addr) (bl bc : Nat) (lv : Value) (w : World) (h : Two B w a g ra rg xs off) (ys : List Int) (j : Nat) (z : Int) (hb : off + n ≤ xs.length) (HY : Hid ((xs.drop off).take n = ys)) (hj : j < n) (HZ : Hid (∀ k, k < j → ys.getD k 0 = 0)) (HJ : Hid (ys.getD j 0 = z)) (hz : (z != 0) = true) :
    Calls Try.prog 30 #[.pointer (some ⟨a, 0, none⟩), .pointer (some ⟨ra, 0, none⟩), .agg #[.int .i64 4, .bool two, .int .i64 n, .int .u64 v, .slice ba bl bc], lv] w fun e w' => e = .returned (.tuple #[lv, .bool true]) ∧ (∃ off', Two B w' a g ra rg xs off') ∧ Chg (fun k => k = a ∨ k = ra) w w' := by
  obtain ⟨n1, n2, n3, n4⟩ := h.ne
  have hlt := h.rd.lt.1
  have hA := h.new (chg_one _ w (.cells #[.int .i64 4, .bool two, .int .i64 n, .int .u64 v, .slice ba bl bc] 47))
  have hk2 := op_cell (Chg.refl (fun k => k = a) (w.alloc (.cells #[.int .i64 4, .bool two, .int .i64 n, .int .u64 v, .slice ba bl bc] 47))) hlt
  have hC : Chg (fun k => k = a ∨ k = ra) w (w.alloc (.cells #[.int .i64 4, .bool two, .int .i64 n, .int .u64 v, .slice ba bl bc] 47)) := chg_one _ w _
  clear h
  go_enter Try.func30, Try.ntmps30
  go_wp2_with fail
  obtain ⟨ad, c, hr⟩ := hA.rr
  have hd := hA.rd
  clear hA
  have hNa : w.heap.size ≠ ra := fun e => by
    have h1 := hr.blk
    rw [← e, heap_alloc_new] at h1
    simp at h1
  have hNb : w.heap.size ≠ a := fun e => by omega
  go_region_held3 (fun w' => w'.cell? ⟨w.heap.size, 2, none⟩ = some (.int .i64 n)) (first | go_keep | assumption) (first | (go_at_call 12; refine (rzeros_bad B a g off xs ys n j z _ (hd.chg (by exact ⟨rfl, rfl, rfl, Nat.le_refl _, fun _ _ _ => rfl⟩)) hb HY hj HZ HJ hz).mono ?_; rintro e w2 ⟨rfl, q2, rfl⟩) | (go_at_call 50; refine (refZeros_bad B ra rg off c xs ys ad n j z _ (hr.new (by exact ⟨rfl, rfl, rfl, Nat.le_refl _, fun _ _ _ => rfl⟩)) hb HY hj HZ HJ hz).mono ?_; rintro e w3 ⟨rfl, rfl⟩))
  clear hk2
  go_wp2
  go_ret2
  exact ⟨rfl, ⟨off, hd.chg (by exact ⟨rfl, rfl, rfl, Nat.le_refl _, fun _ _ _ => rfl⟩), ad, c, hr.new (by exact ⟨rfl, rfl, rfl, Nat.le_refl _, fun _ _ _ => rfl⟩)⟩, hC.trans (T := fun _ => False) (by exact ⟨rfl, rfl, rfl, Nat.le_refl _, fun _ _ _ => rfl⟩) (fun _ f => f.elim)⟩


end Go.Proofs.Ytgfibbabfpphpaa
