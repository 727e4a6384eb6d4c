/- The contract of the statements' own function writes at Low, High, Zeros and Len, of no statement by itself. -/
import Derived.Test.YtgfibbabfpphpaaRefW
import Derived.Test.YtgfibbabfpphpaaReadsC
namespace Go.Proofs.Ytgfibbabfpphpaa
open Go.RowKit

/-- Two slices that share no row. -/
def Far (v u : Value) : Prop := ∀ g, v.ownBlock = some g → u.ownBlock ≠ some g

/-- A writer of the program and one of the document side by side: the same bytes, in rows of their own. -/
structure TW (B : Nat) (w : World) (a : Nat) (v : Value) (ra : Nat) (rv : Value) (bs : List Int) : Prop where
  wr : Wr B w a v bs
  rw : RW B w ra rv bs
  far : Far v rv

def Feet (a : Nat) (v : Value) (ra : Nat) (rv : Value) (k : Nat) : Prop := Foot a v k ∨ Foot ra rv k

theorem TW.new {B : Nat} {w w' : World} {a ra : Nat} {v rv : Value} {bs : List Int} (h : TW B w a v ra rv bs) (hc : Chg (fun _ => False) w w') : TW B w' a v ra rv bs :=
  ⟨h.wr.keep hc (fun f => f) (fun _ _ f => f), h.rw.new hc, h.far⟩

/-- No foot of the one is a foot of the other. -/
theorem TW.feet {B : Nat} {w : World} {a ra : Nat} {v rv : Value} {bs : List Int} (h : TW B w a v ra rv bs) : ∀ k, Foot a v k → ¬ Foot ra rv k := by
  intro k h1 h2
  have b1 := h.wr.blk
  have b2 := h.rw.blk
  rcases h1 with rfl | h1
  · rcases h2 with rfl | h2
    · rw [b1] at b2; simp at b2
    · exact row_ne h.rw.row b1 (by decide) h2
  · rcases h2 with rfl | h2
    · exact row_ne h.wr.row b2 (by decide) h1
    · exact h.far k h1 h2
theorem TW.lt {B : Nat} {w : World} {a ra : Nat} {v rv : Value} {bs : List Int} (h : TW B w a v ra rv bs) : ∀ k, Feet a v ra rv k → B ≤ k ∧ k < w.heap.size := by
  intro k hk
  rcases hk with hk | hk
  · exact h.wr.foot k hk
  · exact h.rw.foot k hk

/-- The document's writer behind a call on the program's. -/
theorem TW.mid {B : Nat} {w0 w1 : World} {a ra : Nat} {v rv : Value} {bs : List Int} (h : TW B w0 a v ra rv bs) (hc1 : Chg (Foot a v) w0 w1) : RW B w1 ra rv bs :=
  h.rw.keep hc1 (fun f => h.feet ra f (.inl rfl)) (fun g e f => h.feet g f (.inr e))

theorem Moved.trans' {w w1 : World} {v v' : Value} (h : Moved w1 v v') (hs : w.heap.size ≤ w1.heap.size) : Moved w v v' := fun g e => by
  rcases h g e with k | k
  · exact .inl k
  · exact .inr (by omega)

theorem TW.step {B : Nat} {w0 w1 w2 : World} {a ra : Nat} {v rv v' rv' : Value} {bs bs' : List Int} (h : TW B w0 a v ra rv bs) (hw : Wr B w1 a v' bs') (hc1 : Chg (Foot a v) w0 w1) (hm1 : Moved w0 v v') (hr : RW B w2 ra rv' bs') (hc2 : Chg (Foot ra rv) w1 w2) (hm2 : Moved w1 rv rv') :
    TW B w2 a v' ra rv' bs' ∧ Chg (Feet a v ra rv) w0 w2 ∧ Moved w0 v v' ∧ Moved w0 rv rv' := by
  have hv : ∀ g, v'.ownBlock = some g → ¬ Foot ra rv g := fun g e f => by
    rcases hm1 g e with k | k
    · exact h.feet g (.inr k) f
    · have := (h.rw.foot g f).2; omega
  refine ⟨⟨hw.keep hc2 (fun f => h.feet a (.inl rfl) f) hv, hr, fun g e f => ?_⟩, (hc1.mono (fun _ f => .inl (.inl f))).trans hc2 (fun _ f => .inl (.inr f)), hm1, hm2.trans' hc1.size⟩
  rcases hm2 g f with k | k
  · exact hv g e (.inr k)
  · have := (hw.row.lt g e).2; omega

theorem cell_afterS {S : Nat → Prop} {w w' : World} {p : Addr} {v : Value} (hc : Chg S w w') (hk : w.cell? p = some v) (hne : ¬ S p.block) : w'.cell? p = some v := by
  rw [World.cell?_of_block (hc.block p.block (World.block_lt_of_cell? w p hk) hne)]
  exact hk

/-- What a call of 'writes' leaves of the two writers. -/
def Writes (B : Nat) (w : World) (a : Nat) (v : Value) (ra : Nat) (rv : Value) (bs : List Int) (more : Nat) (w' : World) : Prop :=
  ∃ v' rv' bs', TW B w' a v' ra rv' bs' ∧ bs'.length ≤ bs.length + more ∧ Chg (Feet a v ra rv) w w' ∧ Moved w v v' ∧ Moved w rv rv'

set_option maxRecDepth 100000 in
set_option maxHeartbeats 2000000 in
theorem writes_low_no (B a : Nat) (v : Value) (ra : Nat) (rv : Value) (bs : List Int) (two : Bool) (n x : Int) (ba : Option Addr) (bl bc : Nat) (lv : Value) (w : World) (h : TW B w a v ra rv bs) (hB : B ≤ w.heap.size) (_hlen : bs.length ≤ 1099511627776) (hn : n < 1 ∨ 8 < n) :
    Calls Try.prog 23 #[.pointer (some ⟨a, 0, none⟩), .pointer (some ⟨ra, 0, none⟩), .agg #[.int .i64 1, .bool two, .int .i64 n, .int .u64 x, .slice ba bl bc], lv] w fun e w' => e = .returned (.tuple #[lv, .bool true]) ∧ Writes B w a v ra rv bs 65536 w' := by
  have hA := h.new (chg_one _ w (.cells #[.int .i64 1, .bool two, .int .i64 n, .int .u64 x, .slice ba bl bc] 47))
  have hC : Chg (fun _ => False) w (w.alloc (.cells #[.int .i64 1, .bool two, .int .i64 n, .int .u64 x, .slice ba bl bc] 47)) := chg_one _ w _
  have hbx := heap_alloc_new w (.cells #[.int .i64 1, .bool two, .int .i64 n, .int .u64 x, .slice ba bl bc] 47)
  obtain ⟨-, -, hk2, hk3, -⟩ := blk5_cell hbx
  have hNf : ¬ Foot a v w.heap.size := fun f => by have := (h.wr.foot _ f).2; omega
  have hNr : ¬ Foot ra rv w.heap.size := fun f => by have := (h.rw.foot _ f).2; omega
  have hB1 : B ≤ (w.alloc (.cells #[.int .i64 1, .bool two, .int .i64 n, .int .u64 x, .slice ba bl bc] 47)).heap.size := Nat.le_trans hB hC.size
  clear h hbx
  go_enter Try.func23, Try.ntmps23
  go_wp2_with fail
  go_region_held3 (fun w' => w'.cell? ⟨w.heap.size, 2, none⟩ = some (.int .i64 n) ∧ w'.cell? ⟨w.heap.size, 3, none⟩ = some (.int .u64 x)) (first | go_keep | (refine ⟨?_, ?_⟩ <;> assumption) | assumption) (first | (go_at_call 15; refine (low_no _ _ _ _ hn).mono ?_; rintro e w2 ⟨rfl, rfl⟩) | (go_at_call 38; refine (refWLow_no _ _ _ _ hn).mono ?_; rintro e w3 ⟨rfl, rfl⟩))
  clear hk2 hk3
  go_wp2
  go_ret2
  exact ⟨rfl, v, rv, bs, hA.new (by exact ⟨rfl, rfl, rfl, Nat.le_refl _, fun _ _ _ => rfl⟩), by omega, hC.mono (fun _ f => f.elim) |>.trans (T := fun _ => False) (by exact ⟨rfl, rfl, rfl, Nat.le_refl _, fun _ _ _ => rfl⟩) (fun _ f => f.elim), Moved.refl _ _, Moved.refl _ _⟩

set_option maxRecDepth 100000 in
set_option maxHeartbeats 2000000 in
theorem writes_low_yes (B a : Nat) (v : Value) (ra : Nat) (rv : Value) (bs : List Int) (two : Bool) (n : Nat) (x : Int) (ba : Option Addr) (bl bc : Nat) (lv : Value) (w : World) (h : TW B w a v ra rv bs) (hB : B ≤ w.heap.size) (hlen : bs.length ≤ 1099511627776) (h1 : 1 ≤ n) (h2 : n ≤ 8) (hx : 0 ≤ x) (hx1 : x < 18446744073709551616) :
    Calls Try.prog 23 #[.pointer (some ⟨a, 0, none⟩), .pointer (some ⟨ra, 0, none⟩), .agg #[.int .i64 1, .bool two, .int .i64 n, .int .u64 x, .slice ba bl bc], lv] w fun e w' => e = .returned (.tuple #[lv, .bool true]) ∧ Writes B w a v ra rv bs 65536 w' := by
  have hA := h.new (chg_one _ w (.cells #[.int .i64 1, .bool two, .int .i64 n, .int .u64 x, .slice ba bl bc] 47))
  have hC : Chg (fun _ => False) w (w.alloc (.cells #[.int .i64 1, .bool two, .int .i64 n, .int .u64 x, .slice ba bl bc] 47)) := chg_one _ w _
  have hbx := heap_alloc_new w (.cells #[.int .i64 1, .bool two, .int .i64 n, .int .u64 x, .slice ba bl bc] 47)
  obtain ⟨-, -, hk2, hk3, -⟩ := blk5_cell hbx
  have hNf : ¬ Foot a v w.heap.size := fun f => by have := (h.wr.foot _ f).2; omega
  have hNr : ¬ Foot ra rv w.heap.size := fun f => by have := (h.rw.foot _ f).2; omega
  have hB1 : B ≤ (w.alloc (.cells #[.int .i64 1, .bool two, .int .i64 n, .int .u64 x, .slice ba bl bc] 47)).heap.size := Nat.le_trans hB hC.size
  clear h hbx
  go_enter Try.func23, Try.ntmps23
  go_wp2_with fail
  go_region_held3 (fun w' => w'.cell? ⟨w.heap.size, 2, none⟩ = some (.int .i64 n) ∧ w'.cell? ⟨w.heap.size, 3, none⟩ = some (.int .u64 x)) (first | go_keep | (refine ⟨?_, ?_⟩ <;> assumption) | assumption) (first | (go_at_call 15; refine (low_yes B a v bs x n _ (hA.new (by exact ⟨rfl, rfl, rfl, Nat.le_refl _, fun _ _ _ => rfl⟩)).wr (by exact hB1) h1 h2 (by omega)).mono ?_; rintro e w2 ⟨rfl, v2, hw2, hc2, hm2⟩; have hk22 := cell_afterS hc2 (p := ⟨w.heap.size, 2, none⟩) (by exact hk2) hNf; have hk23 := cell_afterS hc2 (p := ⟨w.heap.size, 3, none⟩) (by exact hk3) hNf; have hr2 := (hA.new (w' := _) (by exact ⟨rfl, rfl, rfl, Nat.le_refl _, fun _ _ _ => rfl⟩)).mid hc2; have hB2 := Nat.le_trans hB1 hc2.size) | (go_at_call 38; refine (refWLow_yes B ra rv bs x n _ hr2 hB2 h1 h2 hx hx1 (by omega)).mono ?_; rintro e w3 ⟨rfl, v3, hr3, hc3, hm3⟩; have hk32 := cell_afterS hc3 (p := ⟨w.heap.size, 2, none⟩) hk22 hNr; have hk33 := cell_afterS hc3 (p := ⟨w.heap.size, 3, none⟩) hk23 hNr))
  clear hk2 hk3
  go_wp2
  go_ret2
  exact by
    obtain ⟨T, C, M1, M2⟩ := (hA.new (w' := _) (by exact ⟨rfl, rfl, rfl, Nat.le_refl _, fun _ _ _ => rfl⟩)).step hw2 hc2 hm2 hr3 hc3 hm3
    exact ⟨rfl, _, _, _, T, by simp [lowBytes_length]; omega, ((chg_none hC).trans (T := fun _ => False) (by exact ⟨rfl, rfl, rfl, Nat.le_refl _, fun _ _ _ => rfl⟩) (fun _ f => f.elim)).trans C (fun _ f => .inl f), M1.trans' hC.size, M2.trans' hC.size⟩

set_option maxRecDepth 100000 in
set_option maxHeartbeats 2000000 in
theorem writes_high_no (B a : Nat) (v : Value) (ra : Nat) (rv : Value) (bs : List Int) (two : Bool) (n x : Int) (ba : Option Addr) (bl bc : Nat) (lv : Value) (w : World) (h : TW B w a v ra rv bs) (hB : B ≤ w.heap.size) (_hlen : bs.length ≤ 1099511627776) (hn : n < 1 ∨ 8 < n) :
    Calls Try.prog 23 #[.pointer (some ⟨a, 0, none⟩), .pointer (some ⟨ra, 0, none⟩), .agg #[.int .i64 2, .bool two, .int .i64 n, .int .u64 x, .slice ba bl bc], lv] w fun e w' => e = .returned (.tuple #[lv, .bool true]) ∧ Writes B w a v ra rv bs 65536 w' := by
  have hA := h.new (chg_one _ w (.cells #[.int .i64 2, .bool two, .int .i64 n, .int .u64 x, .slice ba bl bc] 47))
  have hC : Chg (fun _ => False) w (w.alloc (.cells #[.int .i64 2, .bool two, .int .i64 n, .int .u64 x, .slice ba bl bc] 47)) := chg_one _ w _
  have hbx := heap_alloc_new w (.cells #[.int .i64 2, .bool two, .int .i64 n, .int .u64 x, .slice ba bl bc] 47)
  obtain ⟨-, -, hk2, hk3, -⟩ := blk5_cell hbx
  have hNf : ¬ Foot a v w.heap.size := fun f => by have := (h.wr.foot _ f).2; omega
  have hNr : ¬ Foot ra rv w.heap.size := fun f => by have := (h.rw.foot _ f).2; omega
  have hB1 : B ≤ (w.alloc (.cells #[.int .i64 2, .bool two, .int .i64 n, .int .u64 x, .slice ba bl bc] 47)).heap.size := Nat.le_trans hB hC.size
  clear h hbx
  go_enter Try.func23, Try.ntmps23
  go_wp2_with fail
  go_region_held3 (fun w' => w'.cell? ⟨w.heap.size, 2, none⟩ = some (.int .i64 n) ∧ w'.cell? ⟨w.heap.size, 3, none⟩ = some (.int .u64 x)) (first | go_keep | (refine ⟨?_, ?_⟩ <;> assumption) | assumption) (first | (go_at_call 20; refine (high_no _ _ _ _ hn).mono ?_; rintro e w2 ⟨rfl, rfl⟩) | (go_at_call 39; refine (refWHigh_no _ _ _ _ hn).mono ?_; rintro e w3 ⟨rfl, rfl⟩))
  clear hk2 hk3
  go_wp2
  go_ret2
  exact ⟨rfl, v, rv, bs, hA.new (by exact ⟨rfl, rfl, rfl, Nat.le_refl _, fun _ _ _ => rfl⟩), by omega, hC.mono (fun _ f => f.elim) |>.trans (T := fun _ => False) (by exact ⟨rfl, rfl, rfl, Nat.le_refl _, fun _ _ _ => rfl⟩) (fun _ f => f.elim), Moved.refl _ _, Moved.refl _ _⟩

set_option maxRecDepth 100000 in
set_option maxHeartbeats 2000000 in
theorem writes_high_yes (B a : Nat) (v : Value) (ra : Nat) (rv : Value) (bs : List Int) (two : Bool) (n : Nat) (x : Int) (ba : Option Addr) (bl bc : Nat) (lv : Value) (w : World) (h : TW B w a v ra rv bs) (hB : B ≤ w.heap.size) (hlen : bs.length ≤ 1099511627776) (h1 : 1 ≤ n) (h2 : n ≤ 8) (hx : 0 ≤ x) (hx1 : x < 18446744073709551616) :
    Calls Try.prog 23 #[.pointer (some ⟨a, 0, none⟩), .pointer (some ⟨ra, 0, none⟩), .agg #[.int .i64 2, .bool two, .int .i64 n, .int .u64 x, .slice ba bl bc], lv] w fun e w' => e = .returned (.tuple #[lv, .bool true]) ∧ Writes B w a v ra rv bs 65536 w' := by
  have hA := h.new (chg_one _ w (.cells #[.int .i64 2, .bool two, .int .i64 n, .int .u64 x, .slice ba bl bc] 47))
  have hC : Chg (fun _ => False) w (w.alloc (.cells #[.int .i64 2, .bool two, .int .i64 n, .int .u64 x, .slice ba bl bc] 47)) := chg_one _ w _
  have hbx := heap_alloc_new w (.cells #[.int .i64 2, .bool two, .int .i64 n, .int .u64 x, .slice ba bl bc] 47)
  obtain ⟨-, -, hk2, hk3, -⟩ := blk5_cell hbx
  have hNf : ¬ Foot a v w.heap.size := fun f => by have := (h.wr.foot _ f).2; omega
  have hNr : ¬ Foot ra rv w.heap.size := fun f => by have := (h.rw.foot _ f).2; omega
  have hB1 : B ≤ (w.alloc (.cells #[.int .i64 2, .bool two, .int .i64 n, .int .u64 x, .slice ba bl bc] 47)).heap.size := Nat.le_trans hB hC.size
  clear h hbx
  go_enter Try.func23, Try.ntmps23
  go_wp2_with fail
  go_region_held3 (fun w' => w'.cell? ⟨w.heap.size, 2, none⟩ = some (.int .i64 n) ∧ w'.cell? ⟨w.heap.size, 3, none⟩ = some (.int .u64 x)) (first | go_keep | (refine ⟨?_, ?_⟩ <;> assumption) | assumption) (first | (go_at_call 20; refine (high_yes B a v bs x n _ (hA.new (by exact ⟨rfl, rfl, rfl, Nat.le_refl _, fun _ _ _ => rfl⟩)).wr (by exact hB1) h1 h2 (by omega)).mono ?_; rintro e w2 ⟨rfl, v2, hw2, hc2, hm2⟩; have hk22 := cell_afterS hc2 (p := ⟨w.heap.size, 2, none⟩) (by exact hk2) hNf; have hk23 := cell_afterS hc2 (p := ⟨w.heap.size, 3, none⟩) (by exact hk3) hNf; have hr2 := (hA.new (w' := _) (by exact ⟨rfl, rfl, rfl, Nat.le_refl _, fun _ _ _ => rfl⟩)).mid hc2; have hB2 := Nat.le_trans hB1 hc2.size) | (go_at_call 39; refine (refWHigh_yes B ra rv bs x n _ hr2 hB2 h1 h2 hx hx1 (by omega)).mono ?_; rintro e w3 ⟨rfl, v3, hr3, hc3, hm3⟩; have hk32 := cell_afterS hc3 (p := ⟨w.heap.size, 2, none⟩) hk22 hNr; have hk33 := cell_afterS hc3 (p := ⟨w.heap.size, 3, none⟩) hk23 hNr))
  clear hk2 hk3
  go_wp2
  go_ret2
  exact by
    obtain ⟨T, C, M1, M2⟩ := (hA.new (w' := _) (by exact ⟨rfl, rfl, rfl, Nat.le_refl _, fun _ _ _ => rfl⟩)).step hw2 hc2 hm2 hr3 hc3 hm3
    exact ⟨rfl, _, _, _, T, by simp [highBytes_length]; omega, ((chg_none hC).trans (T := fun _ => False) (by exact ⟨rfl, rfl, rfl, Nat.le_refl _, fun _ _ _ => rfl⟩) (fun _ f => f.elim)).trans C (fun _ f => .inl f), M1.trans' hC.size, M2.trans' hC.size⟩

set_option maxRecDepth 100000 in
set_option maxHeartbeats 2000000 in
theorem writes_zeros_no (B a : Nat) (v : Value) (ra : Nat) (rv : Value) (bs : List Int) (two : Bool) (n x : Int) (ba : Option Addr) (bl bc : Nat) (lv : Value) (w : World) (h : TW B w a v ra rv bs) (hB : B ≤ w.heap.size) (_hlen : bs.length ≤ 1099511627776) (hn : n < 0 ∨ 65536 < n) :
    Calls Try.prog 23 #[.pointer (some ⟨a, 0, none⟩), .pointer (some ⟨ra, 0, none⟩), .agg #[.int .i64 4, .bool two, .int .i64 n, .int .u64 x, .slice ba bl bc], lv] w fun e w' => e = .returned (.tuple #[lv, .bool true]) ∧ Writes B w a v ra rv bs 65536 w' := by
  have hA := h.new (chg_one _ w (.cells #[.int .i64 4, .bool two, .int .i64 n, .int .u64 x, .slice ba bl bc] 47))
  have hC : Chg (fun _ => False) w (w.alloc (.cells #[.int .i64 4, .bool two, .int .i64 n, .int .u64 x, .slice ba bl bc] 47)) := chg_one _ w _
  have hbx := heap_alloc_new w (.cells #[.int .i64 4, .bool two, .int .i64 n, .int .u64 x, .slice ba bl bc] 47)
  obtain ⟨-, -, hk2, hk3, -⟩ := blk5_cell hbx
  have hNf : ¬ Foot a v w.heap.size := fun f => by have := (h.wr.foot _ f).2; omega
  have hNr : ¬ Foot ra rv w.heap.size := fun f => by have := (h.rw.foot _ f).2; omega
  have hB1 : B ≤ (w.alloc (.cells #[.int .i64 4, .bool two, .int .i64 n, .int .u64 x, .slice ba bl bc] 47)).heap.size := Nat.le_trans hB hC.size
  clear h hbx
  go_enter Try.func23, Try.ntmps23
  go_wp2_with fail
  go_region_held3 (fun w' => w'.cell? ⟨w.heap.size, 2, none⟩ = some (.int .i64 n)) (first | go_keep | (refine ⟨?_, ?_⟩ <;> assumption) | assumption) (first | (go_at_call 16; refine (zeros_no _ _ _ hn).mono ?_; rintro e w2 ⟨rfl, rfl⟩) | (go_at_call 41; refine (refWZeros_no _ _ _ hn).mono ?_; rintro e w3 ⟨rfl, rfl⟩))
  clear hk2 hk3
  go_wp2
  go_ret2
  exact ⟨rfl, v, rv, bs, hA.new (by exact ⟨rfl, rfl, rfl, Nat.le_refl _, fun _ _ _ => rfl⟩), by omega, hC.mono (fun _ f => f.elim) |>.trans (T := fun _ => False) (by exact ⟨rfl, rfl, rfl, Nat.le_refl _, fun _ _ _ => rfl⟩) (fun _ f => f.elim), Moved.refl _ _, Moved.refl _ _⟩

set_option maxRecDepth 100000 in
set_option maxHeartbeats 2000000 in
theorem writes_zeros_yes (B a : Nat) (v : Value) (ra : Nat) (rv : Value) (bs : List Int) (two : Bool) (n : Nat) (x : Int) (ba : Option Addr) (bl bc : Nat) (lv : Value) (w : World) (h : TW B w a v ra rv bs) (hB : B ≤ w.heap.size) (hlen : bs.length ≤ 1099511627776) (hn : n ≤ 65536) :
    Calls Try.prog 23 #[.pointer (some ⟨a, 0, none⟩), .pointer (some ⟨ra, 0, none⟩), .agg #[.int .i64 4, .bool two, .int .i64 n, .int .u64 x, .slice ba bl bc], lv] w fun e w' => e = .returned (.tuple #[lv, .bool true]) ∧ Writes B w a v ra rv bs 65536 w' := by
  have hA := h.new (chg_one _ w (.cells #[.int .i64 4, .bool two, .int .i64 n, .int .u64 x, .slice ba bl bc] 47))
  have hC : Chg (fun _ => False) w (w.alloc (.cells #[.int .i64 4, .bool two, .int .i64 n, .int .u64 x, .slice ba bl bc] 47)) := chg_one _ w _
  have hbx := heap_alloc_new w (.cells #[.int .i64 4, .bool two, .int .i64 n, .int .u64 x, .slice ba bl bc] 47)
  obtain ⟨-, -, hk2, hk3, -⟩ := blk5_cell hbx
  have hNf : ¬ Foot a v w.heap.size := fun f => by have := (h.wr.foot _ f).2; omega
  have hNr : ¬ Foot ra rv w.heap.size := fun f => by have := (h.rw.foot _ f).2; omega
  have hB1 : B ≤ (w.alloc (.cells #[.int .i64 4, .bool two, .int .i64 n, .int .u64 x, .slice ba bl bc] 47)).heap.size := Nat.le_trans hB hC.size
  clear h hbx
  go_enter Try.func23, Try.ntmps23
  go_wp2_with fail
  go_region_held3 (fun w' => w'.cell? ⟨w.heap.size, 2, none⟩ = some (.int .i64 n)) (first | go_keep | (refine ⟨?_, ?_⟩ <;> assumption) | assumption) (first | (go_at_call 16; refine (zeros_yes B a v bs n _ (hA.new (by exact ⟨rfl, rfl, rfl, Nat.le_refl _, fun _ _ _ => rfl⟩)).wr (by exact hB1) hn (by omega)).mono ?_; rintro e w2 ⟨rfl, v2, hw2, hc2, hm2⟩; have hk22 := cell_afterS hc2 (p := ⟨w.heap.size, 2, none⟩) (by exact hk2) hNf; have hr2 := (hA.new (w' := _) (by exact ⟨rfl, rfl, rfl, Nat.le_refl _, fun _ _ _ => rfl⟩)).mid hc2; have hB2 := Nat.le_trans hB1 hc2.size) | (go_at_call 41; refine (refWZeros_yes B ra rv bs n _ hr2 hB2 hn (by omega)).mono ?_; rintro e w3 ⟨rfl, v3, hr3, hc3, hm3⟩; have hk32 := cell_afterS hc3 (p := ⟨w.heap.size, 2, none⟩) hk22 hNr))
  clear hk2 hk3
  go_wp2
  go_ret2
  exact by
    obtain ⟨T, C, M1, M2⟩ := (hA.new (w' := _) (by exact ⟨rfl, rfl, rfl, Nat.le_refl _, fun _ _ _ => rfl⟩)).step hw2 hc2 hm2 hr3 hc3 hm3
    exact ⟨rfl, _, _, _, T, by simp [List.length_replicate]; omega, ((chg_none hC).trans (T := fun _ => False) (by exact ⟨rfl, rfl, rfl, Nat.le_refl _, fun _ _ _ => rfl⟩) (fun _ f => f.elim)).trans C (fun _ f => .inl f), M1.trans' hC.size, M2.trans' hC.size⟩


end Go.Proofs.Ytgfibbabfpphpaa
