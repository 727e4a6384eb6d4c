/- Several texts in one, none of a statement by itself: Hold, Book, Looks, Held, Keep. -/
import Derived.Test.YtlnocjicmofjfaaDoorBoundA
/- The contracts of the statements' own functions written, grown and hold, of no statement by themselves. -/
namespace Go.Proofs.YtlnocjicmofjfaaDoor.Bk
open Go.RowKit

/-- A list that is held: the slice, how many bytes it had, its mark, what it was, whether it was left as it was; and the bytes that it has now. -/
structure Hd where
  v : Value
  n : Nat
  mark : Int
  want : ByteArray
  kept : Bool
  ys : List Int

def Hd.cells (h : Hd) : List Value := [h.v, .int .i64 h.n, .int .u8 h.mark, .string h.want, .bool h.kept]
def Hd.val (h : Hd) : Value := .agg #[h.v, .int .i64 h.n, .int .u8 h.mark, .string h.want, .bool h.kept]

/-- A list with its first k bytes written. -/
def over (mark : Int) (ys : List Int) (k : Nat) : List Int := List.replicate k mark ++ ys.drop k

theorem over_len (mark : Int) (ys : List Int) (k : Nat) (h : k ≤ ys.length) : (over mark ys k).length = ys.length := by simp [over]; omega
theorem over_set (mark : Int) (ys : List Int) (k : Nat) (h : k < ys.length) : (over mark ys k).set k mark = over mark ys (k + 1) := by
  unfold over
  rw [List.set_append_right _ _ (by simp)]
  simp only [List.length_replicate, Nat.sub_self]
  rw [List.drop_eq_getElem_cons h, List.set_cons_zero, List.replicate_succ', List.append_assoc]
  rfl
theorem over_all (mark : Int) (ys : List Int) : over mark ys ys.length = List.replicate ys.length mark := by simp [over]

set_option maxRecDepth 100000 in
set_option maxHeartbeats 1000000 in
theorem written_some (B g cap n : Nat) (mark : Int) (ys : List Int) (want : ByteArray) (kept : Bool) (w : World) (hn : ys.length = n) (hl : n ≤ 140737488355328)
    (h : w.ownsRow B 5 1 (.slice (some ⟨g, 0, none⟩) n cap) n (cells8 ys)) :
    Calls Tryd.prog 48 #[.agg #[.slice (some ⟨g, 0, none⟩) n cap, .int .i64 n, .int .u8 mark, .string want, .bool kept]] w fun e w' => e = .returned (.tuple #[]) ∧ w'.ownsRow B 5 1 (.slice (some ⟨g, 0, none⟩) n cap) n (cells8 (List.replicate n mark)) ∧ Chg (fun k => k = g) w w' := by
  have hg := (h.lt g rfl).2
  go_enter Tryd.func48, Tryd.ntmps48
  go_wp2_with fail
  go_loopw [2] (fun i wr => ∃ k : Nat, k ≤ n ∧ i = .int .i64 k ∧ wr.ownsRow B 5 1 (.slice (some ⟨g, 0, none⟩) n cap) n (cells8 (over mark ys k)) ∧ Chg (fun k => k = g) (w.alloc (.cells #[.slice (some ⟨g, 0, none⟩) n cap, .int .i64 n, .int .u8 mark, .string want, .bool kept] 61)) wr) (fun i _ => n - (intOf i).toNat)
  case atStart => exact ⟨0, Nat.zero_le _, rfl, by simpa [over] using h.alloc _, Chg.refl _ _⟩
  case round =>
    obtain ⟨k, hk, rfl, ho, hc⟩ := hrel
    have hbx : wr.heap[w.heap.size]? = some (.cells #[.slice (some ⟨g, 0, none⟩) n cap, .int .i64 n, .int .u8 mark, .string want, .bool kept] 61 (0, 0)) :=
      (hc.block w.heap.size (by simp) (by omega)).trans (heap_alloc_new w _)
    have b0 : wr.cell? ⟨w.heap.size, 0, none⟩ = some (.slice (some ⟨g, 0, none⟩) n cap) := by rw [World.cell?, hbx]; rfl
    have b1 : wr.cell? ⟨w.heap.size, 1, none⟩ = some (.int .i64 n) := by rw [World.cell?, hbx]; rfl
    have b2 : wr.cell? ⟨w.heap.size, 2, none⟩ = some (.int .u8 mark) := by rw [World.cell?, hbx]; rfl
    clear hbx
    by_cases hlt : k < n
    · obtain ⟨z, ck⟩ : ∃ z, wr.cell? ⟨g, k, none⟩ = some (.int .u8 z) := by
        rw [ho.cellAt k (by omega)]
        have hkl : k < (over mark ys k).length := by rw [over_len mark ys k (by omega)]; omega
        exact ⟨(over mark ys k)[k], by simp [cells8, hkl]⟩
      have fk := ho.frozenAt k
      have R : (wr.setCell ⟨g, k, none⟩ (.int .u8 mark)).ownsRow B 5 1 (.slice (some ⟨g, 0, none⟩) n cap) n (cells8 (over mark ys (k + 1))) := by
        have := (ho.stored k (.int .u8 mark)).1
        rw [← over_set mark ys k (by omega)]
        simpa [cells8, List.map_set] using this
      have C := hc.setCell (p := ⟨g, k, none⟩) (.inl rfl) (.int .u8 mark)
      clear ho hc
      go_wp2
      go_roundw
      case rel => exact ⟨k + 1, by omega, by go_num, R, C⟩
      case measure => simp [intOf]; omega
    · obtain rfl : k = n := by omega
      rw [← hn, over_all, hn] at ho
      go_wp2
      go_end0
      exact ⟨rfl, ho, (chg_one _ w _).trans hc (fun i f => .inl f)⟩

set_option maxRecDepth 100000 in
set_option maxHeartbeats 1000000 in
theorem written_nil (mark : Int) (want : ByteArray) (kept : Bool) (w : World) :
    Calls Tryd.prog 48 #[.agg #[.slice none 0 0, .int .i64 0, .int .u8 mark, .string want, .bool kept]] w fun e w' => e = .returned (.tuple #[]) ∧ Chg (fun _ => False) w w' := by
  go_enter Tryd.func48, Tryd.ntmps48
  go_wp2_with fail
  refine wp_loop_rounds 1 ?_
  rw [rounds_succ]
  go_wp2
  go_end0
  exact ⟨rfl, chg_one _ w _⟩

/-- The list is written full of its mark. -/
theorem written_any (B : Nat) (v : Value) (mark : Int) (ys : List Int) (want : ByteArray) (kept : Bool) (n : Nat) (w : World) (hn : ys.length = n) (hl : n ≤ 140737488355328) (h : w.ownsRow B 5 1 v n (cells8 ys)) :
    Calls Tryd.prog 48 #[.agg #[v, .int .i64 n, .int .u8 mark, .string want, .bool kept]] w fun e w' => e = .returned (.tuple #[]) ∧ w'.ownsRow B 5 1 v n (cells8 (List.replicate n mark)) ∧ Chg (fun k => v.ownBlock = some k) w w' := by
  rcases own_shape h with ⟨rfl, rfl⟩ | ⟨g, cap, rfl⟩
  · refine (written_nil mark want kept w).mono fun e w' ⟨he, hc⟩ => ⟨he, ?_, hc.mono (fun _ f => f.elim)⟩
    exact World.ownsRow_nil _ _ _ _
  · refine (written_some B g cap n mark ys want kept w hn hl h).mono fun e w' ⟨he, ho, hc⟩ => ⟨he, ho, hc.mono (fun i e => .inl (by simp [Value.ownBlock, e]))⟩

/-- The list with three marks behind it: what the call answers, the list, and that it lies where it lay or in new memory. -/
def Grows (B : Nat) (v v' : Value) (n m : Nat) (ys : List Int) (mark : Int) (w w' : World) : Prop :=
  w'.ownsRow B 5 1 v' (n + m) (cells8 (ys ++ List.replicate m mark)) ∧ Chg (fun k => v.ownBlock = some k) w w' ∧ Moved w v v'

theorem blk5_cell {w : World} {a : Nat} {c0 c1 c2 c3 c4 : Value} {t : TypeId} (h : w.heap[a]? = some (.cells #[c0, c1, c2, c3, c4] t (0, 0))) :
    w.cell? ⟨a, 0, none⟩ = some c0 ∧ w.cell? ⟨a, 1, none⟩ = some c1 ∧ w.cell? ⟨a, 2, none⟩ = some c2 ∧ w.cell? ⟨a, 3, none⟩ = some c3 ∧ w.cell? ⟨a, 4, none⟩ = some c4 := by
  simp [World.cell?, h]
theorem blk5_free {w : World} {a : Nat} {cs : Array Value} {t : TypeId} (h : w.heap[a]? = some (.cells cs t (0, 0))) (i : Nat) : w.frozen? ⟨a, i, none⟩ = false := by simp [World.frozen?, h]
theorem blk5_set0 {w : World} {a : Nat} {c0 c1 c2 c3 c4 u : Value} {t : TypeId} (h : w.heap[a]? = some (.cells #[c0, c1, c2, c3, c4] t (0, 0))) : (w.setCell ⟨a, 0, none⟩ u).heap[a]? = some (.cells #[u, c1, c2, c3, c4] t (0, 0)) := by
  have hlt := lt_of_blk h
  have h' : w.heap[a] = .cells #[c0, c1, c2, c3, c4] t (0, 0) := by simpa [Array.getElem?_eq_getElem hlt] using h
  show (w.heap.modify a _)[a]? = _
  rw [Array.getElem?_eq_getElem (by simpa using hlt), Array.getElem_modify_self, h']
  rfl

theorem chg5 (w : World) (a : Nat) (c0 c1 c2 c3 c4 : Value) : Chg (fun k => k = a) w (((((w.setCell ⟨a, 0, none⟩ c0).setCell ⟨a, 1, none⟩ c1).setCell ⟨a, 2, none⟩ c2).setCell ⟨a, 3, none⟩ c3).setCell ⟨a, 4, none⟩ c4) :=
  (((((Chg.refl (fun k => k = a) w).setCell (p := ⟨a, 0, none⟩) (.inl rfl) c0).setCell (p := ⟨a, 1, none⟩) (.inl rfl) c1).setCell (p := ⟨a, 2, none⟩) (.inl rfl) c2).setCell (p := ⟨a, 3, none⟩) (.inl rfl) c3).setCell (p := ⟨a, 4, none⟩) (.inl rfl) c4

theorem chg55 (w : World) (a b : Nat) (c0 c1 c2 c3 c4 : Value) : Chg (fun k => k = a ∨ k = b) w ((((((((((w.setCell ⟨a, 0, none⟩ c0).setCell ⟨a, 1, none⟩ c1).setCell ⟨a, 2, none⟩ c2).setCell ⟨a, 3, none⟩ c3).setCell ⟨a, 4, none⟩ c4).setCell ⟨b, 0, none⟩ c0).setCell ⟨b, 1, none⟩ c1).setCell ⟨b, 2, none⟩ c2).setCell ⟨b, 3, none⟩ c3).setCell ⟨b, 4, none⟩ c4) :=
  ((chg5 w a c0 c1 c2 c3 c4).mono (fun _ e => .inl (.inl e))).trans (chg5 _ b c0 c1 c2 c3 c4) (fun _ e => .inl (.inr e))

/-- What one round of 'grown' leaves. -/
structure Gr (B A : Nat) (v : Value) (n : Nat) (ys : List Int) (mark m : Int) (want : ByteArray) (kept : Bool) (w : World) (k : Nat) (vv : Value) (wr : World) : Prop where
  box : wr.heap[A]? = some (.cells #[vv, .int .i64 m, .int .u8 mark, .string want, .bool kept] 61 (0, 0))
  res : wr.heap[A + 1]? = some (.cells #[.slice none 0 0, .int .i64 0, .int .u8 0, .string ⟨#[]⟩, .bool false] 61 (0, 0))
  row : wr.ownsRow B 5 1 vv (n + k) (cells8 (ys ++ List.replicate k mark))
  chg : Chg (fun b => v.ownBlock = some b ∨ w.heap.size ≤ b) w wr
  mov : Moved w v vv

theorem cells8_append (xs ys : List Int) : cells8 (xs ++ ys) = cells8 xs ++ cells8 ys := by simp [cells8]

theorem Gr.mid {B A : Nat} {v : Value} {n : Nat} {ys : List Int} {mark m : Int} {want : ByteArray} {kept : Bool} {w : World} {k : Nat} {vv : Value} {wr w1 : World} {o : Obj} (h : Gr B A v n ys mark m want kept w k vv wr)
    (hg : (wr.alloc o).grownBy w1 vv.ownBlock) : w1.heap[A]? = some (.cells #[vv, .int .i64 m, .int .u8 mark, .string want, .bool kept] 61 (0, 0)) := by
  have hw1 : Chg (fun b => vv.ownBlock = some b) wr w1 := ((Chg.refl _ wr).alloc o).grown hg (fun k e => .inl e)
  exact (hw1.block A (lt_of_blk h.box) (row_ne h.row h.box (by decide))).trans h.box

theorem Gr.step {B A : Nat} {v : Value} {n : Nat} {ys : List Int} {mark m : Int} {want : ByteArray} {kept : Bool} {w : World} {k : Nat} {vv v1 : Value} {wr w1 : World} {o : Obj} (h : Gr B A v n ys mark m want kept w k vv wr) (hA : A = w.heap.size)
    (hown : w1.ownsRow B 5 1 v1 (n + k + 1) (cells8 (ys ++ List.replicate k mark) ++ [.int .u8 mark])) (hg : (wr.alloc o).grownBy w1 vv.ownBlock) (hm : Moved (wr.alloc o) vv v1) :
    Gr B A v n ys mark m want kept w (k + 1) v1 (w1.setCell ⟨A, 0, none⟩ v1) := by
  have hw1 : Chg (fun b => vv.ownBlock = some b) wr w1 := ((Chg.refl _ wr).alloc o).grown hg (fun k e => .inl e)
  have hb1 : w1.heap[A]? = some (.cells #[vv, .int .i64 m, .int .u8 mark, .string want, .bool kept] 61 (0, 0)) := (hw1.block A (lt_of_blk h.box) (row_ne h.row h.box (by decide))).trans h.box
  have hr1 : w1.heap[A + 1]? = some (.cells #[.slice none 0 0, .int .i64 0, .int .u8 0, .string ⟨#[]⟩, .bool false] 61 (0, 0)) := (hw1.block (A + 1) (lt_of_blk h.res) (row_ne h.row h.res (by decide))).trans h.res
  have hne : v1.ownBlock ≠ some A := row_ne hown hb1 (by decide)
  refine ⟨blk5_set0 hb1, ?_, ?_, ?_, ?_⟩
  · rw [Below.heap_setCell _ _ _ _ (by simp)]; exact hr1
  · have := ownsRow_setCell_other hown (a := ⟨A, 0, none⟩) hne v1
    rw [List.replicate_succ', ← List.append_assoc, cells8_append, ← Nat.add_assoc]
    exact this
  · exact (h.chg.trans hw1 (fun b e => by rcases h.mov b e with e | e; exact .inl (.inl e); exact .inr e)).setCell (p := ⟨A, 0, none⟩) (.inl (.inr (by rw [hA]; exact Nat.le_refl _))) v1
  · refine h.mov.trans (Nat.le_trans h.chg.size (by simp)) hm

set_option maxRecDepth 100000 in
set_option maxHeartbeats 2000000 in
theorem grown_any (B : Nat) (v : Value) (mark : Int) (ys : List Int) (want : ByteArray) (kept : Bool) (n : Nat) (m : Int) (w : World) (hn : ys.length = n) (hl : n ≤ 140737488000000) (h : w.ownsRow B 5 1 v n (cells8 ys)) (hB : B ≤ w.heap.size) :
    Calls Tryd.prog 49 #[.agg #[v, .int .i64 m, .int .u8 mark, .string want, .bool kept]] w fun e w' => ∃ v', e = .returned (.agg #[v', .int .i64 m, .int .u8 mark, .string want, .bool kept]) ∧ Grows B v v' n 70 ys mark w w' := by
  obtain ⟨i0, hi, hz0, hz1, hz2⟩ := info_parts info5
  go_enter Tryd.func49, Tryd.ntmps49
  go_wp2_with fail
  go_loopw [3] (fun i wr => ∃ k : Nat, k ≤ 70 ∧ i = .int .i64 k ∧ ∃ vv, Gr B w.heap.size v n ys mark m want kept w k vv wr) (fun i _ => 70 - (intOf i).toNat)
  case atStart =>
    refine ⟨0, by omega, rfl, v, ?_, ?_, ?_, ?_, Moved.refl _ _⟩
    · rw [Below.heap_alloc _ _ _ (by simp)]; exact heap_alloc_new w _
    · simpa using heap_alloc_new (w.alloc (.cells #[v, .int .i64 m, .int .u8 mark, .string want, .bool kept] 61)) (.cells #[.slice none 0 0, .int .i64 0, .int .u8 0, .string ⟨#[]⟩, .bool false] 61)
    · simpa using (h.alloc _).alloc _
    · exact ((Chg.refl _ w).alloc _).alloc _
  case round =>
    obtain ⟨k, hk, rfl, vv, hgr⟩ := hrel
    by_cases hlt : k < 70
    · obtain ⟨b0, _, b2, _, _⟩ := blk5_cell hgr.box
      obtain ⟨va, vc, rfl, _⟩ := own_row8 hgr.row
      have hBr : B ≤ wr.heap.size := Nat.le_trans hB hgr.chg.size
      go_wp2_with (at_builtin; refine wpList_append_moved rfl (.tmp 9) (.tmp 12) 24 rfl B 5 i0 (.int .u8 0) 1 1 Tryd.underlying24 hi hz0 hz1 hz2 rfl (by decide) _ (n + k) (cells8 (ys ++ List.replicate k mark)) rfl (some ⟨wr.heap.size, 0, none⟩) 1 1 rfl [.int .u8 mark] (hgr.row.alloc _) (row8_one wr mark 5).src (oneCells [mark]) (by unfold maxLen; omega) (by omega) (by simp; omega) ?_)
      intro v1 w1 hown hg hm
      have R := hgr.step rfl hown hg hm
      have hmid := hgr.mid hg
      have k0 := (blk5_cell hmid).1
      have f0 := blk5_free hmid 0
      obtain ⟨va1, vc1, rfl⟩ : ∃ va1 vc1, v1 = .slice va1 (n + k + 1) vc1 := by
        rcases own_shape hown with ⟨rfl, e⟩ | ⟨g, cap, rfl⟩
        · omega
        · exact ⟨_, cap, rfl⟩
      clear hown hg hm hmid hgr b0 b2
      go_wp2
      go_roundw
      case rel => exact ⟨k + 1, by omega, by go_num, _, R⟩
      case measure => simp [intOf]; omega
    · obtain rfl : k = 70 := by omega
      obtain ⟨va, vc, rfl, _⟩ := own_row8 hgr.row
      obtain ⟨b0, b1, b2, b3, b4⟩ := blk5_cell hgr.box
      obtain ⟨r0, r1, r2, r3, r4⟩ := blk5_cell hgr.res
      have f0 := blk5_free hgr.res 0
      have f1 := blk5_free hgr.res 1
      have f2 := blk5_free hgr.res 2
      have f3 := blk5_free hgr.res 3
      have f4 := blk5_free hgr.res 4
      have hrow := hgr.row
      have hchg := hgr.chg
      have hmov := hgr.mov
      have hne := row_ne hrow hgr.res (by decide)
      clear hgr
      go_wp2
      refine bodyPost_ret (v := .agg #[.slice va (n + 70) vc, .int .i64 m, .int .u8 mark, .string want, .bool kept]) (by simp [results, Tryd.results49, go_sem, r0, r1, r2, r3, r4]) rfl ?_
      have hc5 := chg5 wr (w.heap.size + 1) (.slice va (n + 70) vc) (.int .i64 m) (.int .u8 mark) (.string want) (.bool kept)
      refine ⟨_, rfl, ownsRow_keep hrow hc5 (fun g e f => hne (by rw [e, f])), ?_, hmov⟩
      exact (hchg.trans hc5 (fun i e => .inl (.inr (by omega)))).mono (fun i e => by rcases e with e | e; exact .inl e; exact .inr e)

/-- The mark of the list number k. -/
def holdMark (k : Nat) : Int := ((k : Int) * 2 + 1) % 256

set_option maxRecDepth 100000 in
set_option maxHeartbeats 2000000 in
theorem hold_even (B : Nat) (v : Value) (xs : List Int) (n k : Nat) (w : World) (h : w.ownsRow B 5 1 v n (cells8 xs)) (hk : k ≤ 1000000000) (hev : k % 2 = 0) :
    Calls Tryd.prog 24 #[v, .int .i64 k] w fun e w' => e = .returned (.agg #[v, .int .i64 n, .int .u8 (holdMark k), .string (strOfNums xs), .bool true]) ∧ Chg (fun _ => False) w w' := by
  obtain ⟨va, vc, rfl, hr⟩ := own_row8 h
  have hcv := fun o => conv8_here (row8_alloc hr o)
  have hev1 : ((k : Int) % 2 == 0) = true := beq_iff_eq.2 (by omega)
  go_enter Tryd.func24, Tryd.ntmps24
  go_wp2
  exact bodyPost_ret (v := .agg #[.slice va n vc, .int .i64 n, .int .u8 (holdMark k), .string (strOfNums xs), .bool true]) (by simp [results, Tryd.results24, go_sem, holdMark]) rfl ⟨rfl, ((Chg.refl _ w).alloc _).alloc _⟩

set_option maxRecDepth 100000 in
set_option maxHeartbeats 2000000 in
theorem hold_odd (B : Nat) (v : Value) (xs : List Int) (n k : Nat) (w : World) (hn : n ≤ 140737488000000) (hxl : xs.length = n) (h : w.ownsRow B 5 1 v n (cells8 xs)) (hB : B ≤ w.heap.size) (hk : k ≤ 1000000000) (hev : k % 2 = 1) :
    Calls Tryd.prog 24 #[v, .int .i64 k] w fun e w' => ∃ v', e = .returned (.agg #[v', .int .i64 n, .int .u8 (holdMark k), .string (strOfNums xs), .bool false]) ∧ w'.ownsRow B 5 1 v' (n + 70) (cells8 (List.replicate (n + 70) (holdMark k))) ∧ Chg (fun b => v.ownBlock = some b) w w' ∧ Moved w v v' := by
  obtain ⟨va, vc, rfl, hr⟩ := own_row8 h
  have hcv := fun o => conv8_here (row8_alloc hr o)
  have hev1 : ((k : Int) % 2 == 0) = false := beq_eq_false_iff_ne.2 (by omega)
  have HM : Hid (((k : Int) * 2 + 1) % 256 = holdMark k) := rfl
  have hlt := fun g e => (h.lt g e).2
  go_enter Tryd.func24, Tryd.ntmps24
  go_wp2_with fail
  clear hcv hr
  have hw2 := ((h.alloc (.cells #[.slice none 0 0, .int .i64 0, .int .u8 0, .string ⟨#[]⟩, .bool false] 61)).alloc (.cells #[.slice va n vc, .int .i64 n, .int .u8 (((k : Int) * 2 + 1) % 256), .string (strOfNums xs), .bool false] 61))
  have hc2 : Chg (fun b => (Value.slice va n vc).ownBlock = some b) w ((w.alloc (.cells #[.slice none 0 0, .int .i64 0, .int .u8 0, .string ⟨#[]⟩, .bool false] 61)).alloc (.cells #[.slice va n vc, .int .i64 n, .int .u8 (((k : Int) * 2 + 1) % 256), .string (strOfNums xs), .bool false] 61)) := ((Chg.refl _ w).alloc _).alloc _
  have hr2 : ((w.alloc (.cells #[.slice none 0 0, .int .i64 0, .int .u8 0, .string ⟨#[]⟩, .bool false] 61)).alloc (.cells #[.slice va n vc, .int .i64 n, .int .u8 (((k : Int) * 2 + 1) % 256), .string (strOfNums xs), .bool false] 61)).heap[w.heap.size]? = some (.cells #[.slice none 0 0, .int .i64 0, .int .u8 0, .string ⟨#[]⟩, .bool false] 61 (0, 0)) := by
    rw [Below.heap_alloc _ _ _ (by simp)]; exact heap_alloc_new w _
  have hb2 : ((w.alloc (.cells #[.slice none 0 0, .int .i64 0, .int .u8 0, .string ⟨#[]⟩, .bool false] 61)).alloc (.cells #[.slice va n vc, .int .i64 n, .int .u8 (((k : Int) * 2 + 1) % 256), .string (strOfNums xs), .bool false] 61)).heap[w.heap.size + 1]? = some (.cells #[.slice va n vc, .int .i64 n, .int .u8 (((k : Int) * 2 + 1) % 256), .string (strOfNums xs), .bool false] 61 (0, 0)) := by
    have := heap_alloc_new (w.alloc (.cells #[.slice none 0 0, .int .i64 0, .int .u8 0, .string ⟨#[]⟩, .bool false] 61)) (.cells #[.slice va n vc, .int .i64 n, .int .u8 (((k : Int) * 2 + 1) % 256), .string (strOfNums xs), .bool false] 61)
    rw [show (w.alloc (.cells #[.slice none 0 0, .int .i64 0, .int .u8 0, .string ⟨#[]⟩, .bool false] 61)).heap.size = w.heap.size + 1 by simp] at this
    exact this
  refine (written_any B _ _ xs _ _ n _ hxl (by omega) hw2).mono ?_
  rintro e w3 ⟨rfl, ho3, hc3⟩
  have hr3 := blk_keep hr2 hc3 (row_ne hw2 hr2 (by decide))
  have hb3 := blk_keep hb2 hc3 (row_ne hw2 hb2 (by decide))
  have hC3 := hc2.trans hc3 (fun b e => .inl e)
  clear hw2 hc2 hr2 hb2 hc3
  obtain ⟨c0, c1, c2, c3, c4⟩ := blk5_cell hb3
  have hs3 : B ≤ w3.heap.size := Nat.le_trans hB hC3.size
  go_wp2_with fail
  refine (grown_any B _ _ (List.replicate n (((k : Int) * 2 + 1) % 256)) _ _ n _ _ (by simp) hn ho3 hs3).mono ?_
  rintro e w4 ⟨v4, rfl, ho4, hc4, hm4⟩
  have hr4 := blk_keep hr3 hc4 (row_ne ho3 hr3 (by decide))
  have hb4 := blk_keep hb3 hc4 (row_ne ho3 hb3 (by decide))
  have hC4 := hC3.trans hc4 (fun b e => .inl e)
  have hM4 : Moved w (.slice va n vc) v4 := (Moved.refl w _).trans hC3.size hm4
  clear hr3 hb3 hc4 hm4 ho3 hC3 c0 c1 c2 c3 c4
  obtain ⟨va4, vc4, rfl⟩ : ∃ va4 vc4, v4 = .slice va4 (n + 70) vc4 := by
    rcases own_shape ho4 with ⟨_, e⟩ | ⟨g, cap, rfl⟩
    · omega
    · exact ⟨_, cap, rfl⟩
  have hnr := row_ne ho4 hr4 (by decide)
  have hnb := row_ne ho4 hb4 (by decide)
  rw [List.replicate_append_replicate] at ho4
  obtain ⟨c0, c1, c2, c3, c4⟩ := blk5_cell hb4
  obtain ⟨r0, r1, r2, r3, r4⟩ := blk5_cell hr4
  have fb := blk5_free hb4
  have fr := blk5_free hr4
  clear hr4 hb4
  have hq := chg55 w4 (w.heap.size + 1) w.heap.size (.slice va4 (n + 70) vc4) (.int .i64 n) (.int .u8 (((k : Int) * 2 + 1) % 256)) (.string (strOfNums xs)) (.bool false)
  go_wp2
  refine bodyPost_ret (v := .agg #[.slice va4 (n + 70) vc4, .int .i64 n, .int .u8 (holdMark k), .string (strOfNums xs), .bool false]) (by simp [results, Tryd.results24, go_sem, r0, r1, r2, r3, r4, holdMark]) rfl ?_
  refine ⟨_, rfl, ownsRow_keep ho4 hq (fun g e f => ?_), ?_, hM4⟩
  · rcases f with f | f
    · exact hnb (by rw [e, f])
    · exact hnr (by rw [e, f])
  · exact hC4.trans hq (fun b f => .inr (by rcases f with f | f <;> omega))

end Go.Proofs.YtlnocjicmofjfaaDoor.Bk

/- The book of the lists that are held, in memory, and small laws on it; of no statement by themselves. -/
namespace Go.Proofs.YtlnocjicmofjfaaDoor.Bk
open Go.RowKit

/-- The list's bytes lie in a row of their own. -/
def Row (B : Nat) (w : World) (h : Hd) : Prop := w.ownsRow B 5 1 h.v h.ys.length (cells8 h.ys)
def RowsIn (B : Nat) (w : World) (cur : List Hd) : Prop := ∀ (i : Nat) (h : Hd), cur[i]? = some h → Row B w h
/-- No two lists share a row. -/
def Apart (cur : List Hd) : Prop := ∀ (i j : Nat) (a b : Hd), cur[i]? = some a → cur[j]? = some b → i ≠ j → ∀ g, a.v.ownBlock = some g → b.v.ownBlock ≠ some g
/-- The book's cells. -/
def hcells (cur : List Hd) : List Value := (cur.map Hd.cells).flatten

theorem hcells_length (cur : List Hd) : (hcells cur).length = cur.length * 5 := by
  induction cur with
  | nil => rfl
  | cons h t ih =>
    have e : hcells (h :: t) = h.cells ++ hcells t := rfl
    rw [e, List.length_append, ih]
    simp [Hd.cells]
    omega

theorem hcells_append (a b : List Hd) : hcells (a ++ b) = hcells a ++ hcells b := by simp [hcells]

theorem hcells_at (cur : List Hd) (k : Nat) (h : Hd) (hk : cur[k]? = some h) (j : Nat) (hj : j < 5) : (hcells cur)[k * 5 + j]? = h.cells[j]? := by
  induction cur generalizing k with
  | nil => simp at hk
  | cons a t ih =>
    have e : hcells (a :: t) = a.cells ++ hcells t := rfl
    have hl : a.cells.length = 5 := rfl
    rw [e]
    cases k with
    | zero =>
      simp at hk
      subst hk
      rw [List.getElem?_append_left (by omega)]
      simp
    | succ k =>
      rw [List.getElem?_append_right (by omega), ← ih k (by simpa using hk)]
      congr 1
      omega

theorem hcells_set_same (cur : List Hd) (k : Nat) (h h' : Hd) (hk : cur[k]? = some h) (hc : h'.cells = h.cells) : hcells (cur.set k h') = hcells cur := by
  unfold hcells
  congr 1
  apply List.ext_getElem?
  intro i
  rw [List.getElem?_map, List.getElem?_map]
  by_cases e : k = i
  · subst e
    obtain ⟨hlt, _⟩ := List.getElem?_eq_some_iff.1 hk
    rw [List.getElem?_set_self hlt, hk]
    simp [hc]
  · rw [List.getElem?_set_ne e]

/-- Five cells of the book are written anew. -/
theorem hcells_set (cur : List Hd) (k : Nat) (h' : Hd) (hk : k < cur.length) (c0 c1 c2 c3 c4 : Value) (hc : h'.cells = [c0, c1, c2, c3, c4]) :
    (((((hcells cur).set (k * 5 + 0) c0).set (k * 5 + 1) c1).set (k * 5 + 2) c2).set (k * 5 + 3) c3).set (k * 5 + 4) c4 = hcells (cur.set k h') := by
  induction cur generalizing k with
  | nil => simp at hk
  | cons a t ih =>
    have e : hcells (a :: t) = a.cells ++ hcells t := rfl
    cases k with
    | zero =>
      have e2 : hcells ((a :: t).set 0 h') = h'.cells ++ hcells t := rfl
      rw [e, e2, hc]
      rfl
    | succ k =>
      have e2 : hcells ((a :: t).set (k + 1) h') = a.cells ++ hcells (t.set k h') := rfl
      rw [e, e2, ← ih k (by simpa using hk)]
      have hl : a.cells.length = 5 := rfl
      rw [List.set_append_right _ _ (by omega), List.set_append_right _ _ (by omega), List.set_append_right _ _ (by omega), List.set_append_right _ _ (by omega), List.set_append_right _ _ (by omega), hl]
      congr 1
      rw [show (k + 1) * 5 + 0 - 5 = k * 5 + 0 by omega, show (k + 1) * 5 + 1 - 5 = k * 5 + 1 by omega, show (k + 1) * 5 + 2 - 5 = k * 5 + 2 by omega, show (k + 1) * 5 + 3 - 5 = k * 5 + 3 by omega, show (k + 1) * 5 + 4 - 5 = k * 5 + 4 by omega]

theorem Row.lt {B : Nat} {w : World} {h : Hd} (hr : Row B w h) {g : Nat} (hg : h.v.ownBlock = some g) : B ≤ g ∧ g < w.heap.size := World.ownsRow.lt hr g hg

/-- One list's row has turned, or moved into new memory; all others stay. -/
theorem rows_upd {B : Nat} {w w' : World} {cur : List Hd} {k : Nat} {h h' : Hd} (hr : RowsIn B w cur) (ha : Apart cur) (hk : cur[k]? = some h) (hc : Chg (fun b => h.v.ownBlock = some b) w w') (hn : Row B w' h') (hm : Moved w h.v h'.v) :
    RowsIn B w' (cur.set k h') ∧ Apart (cur.set k h') := by
  obtain ⟨hlt, _⟩ := List.getElem?_eq_some_iff.1 hk
  have hget : ∀ (i : Nat) (a : Hd), (cur.set k h')[i]? = some a → i = k ∧ a = h' ∨ i ≠ k ∧ cur[i]? = some a := by
    intro i a e
    by_cases ek : k = i
    · subst ek
      rw [List.getElem?_set_self hlt] at e
      exact .inl ⟨rfl, by simpa using e.symm⟩
    · rw [List.getElem?_set_ne ek] at e
      exact .inr ⟨fun f => ek f.symm, e⟩
  refine ⟨fun i a e => ?_, fun i j a b ei ej hij g hg => ?_⟩
  · rcases hget i a e with ⟨_, rfl⟩ | ⟨hne, e'⟩
    · exact hn
    · exact ownsRow_keep (hr i a e') hc (fun g hg f => ha i k a h e' hk hne g hg f)
  · rcases hget i a ei with ⟨rfl, rfl⟩ | ⟨hni, ei'⟩
    · rcases hget j b ej with ⟨rfl, rfl⟩ | ⟨hnj, ej'⟩
      · exact (hij rfl).elim
      · intro hb
        rcases hm g hg with e | e
        · exact ha _ j h b hk ej' hij g e hb
        · have := (hr j b ej').lt hb
          omega
    · rcases hget j b ej with ⟨rfl, rfl⟩ | ⟨hnj, ej'⟩
      · intro hb
        rcases hm g hb with e | e
        · exact ha _ i h a hk ei' (fun f => hni f.symm) g e hg
        · have := (hr i a ei').lt hg
          omega
      · exact ha i j a b ei' ej' hij g hg

theorem rows_keep {B : Nat} {w w' : World} {cur : List Hd} {S : Nat → Prop} (hr : RowsIn B w cur) (hc : Chg S w w') (hS : ∀ (i : Nat) (h : Hd), cur[i]? = some h → ∀ g, h.v.ownBlock = some g → ¬ S g) : RowsIn B w' cur :=
  fun i h e => ownsRow_keep (hr i h e) hc (hS i h e)
theorem rows_new {B : Nat} {w w' : World} {cur : List Hd} (hr : RowsIn B w cur) (hc : Chg (fun _ => False) w w') : RowsIn B w' cur := rows_keep hr hc (fun _ _ _ _ _ f => f)

theorem own_keep {w w' : World} {S : Nat → Prop} {B : Nat} {e : TypeId} {size : Nat} {v : Value} {n : Nat} {xs : List Value} (h : w.ownsRow B e size v n xs) (hc : Chg S w w') (hS : ∀ g, v.ownBlock = some g → ¬ S g) : w'.ownsRow B e size v n xs := by
  refine ⟨h.1, ?_⟩
  rcases h.2 with hn | ⟨g, cap, cur, rfl, hb, hgg, rest⟩
  · exact .inl hn
  · exact .inr ⟨g, cap, cur, rfl, hb, (hc.block g (lt_of_blk hgg) (hS g rfl)).trans hgg, rest⟩

theorem own_blk {w : World} {B : Nat} {e : TypeId} {size : Nat} {v : Value} {n : Nat} {xs : List Value} (h : w.ownsRow B e size v n xs) {g : Nat} (hg : v.ownBlock = some g) : ∃ cur, w.heap[g]? = some (.cells cur e (0, 0)) := by
  rcases h.2 with ⟨rfl, _⟩ | ⟨g', cap, cur, rfl, hb, hgg, _⟩
  · simp [Value.ownBlock] at hg
  · simp [Value.ownBlock] at hg
    subst hg
    exact ⟨cur, hgg⟩

/-- The book's block is none of a list's rows: their cells are of other types. -/
theorem book_ne {B : Nat} {w : World} {lv : Value} {n : Nat} {xs : List Value} {h : Hd} (hl : w.ownsRow B 61 5 lv n xs) (hr : Row B w h) {g : Nat} (hg : lv.ownBlock = some g) : h.v.ownBlock ≠ some g := by
  intro e
  obtain ⟨c1, h1⟩ := own_blk hl hg
  obtain ⟨c2, h2⟩ := own_blk hr e
  rw [h1] at h2
  simp at h2

theorem book_shape {w : World} {B : Nat} {v : Value} {n : Nat} {xs : List Value} (h : w.ownsRow B 61 5 v n xs) : v = .slice none 0 0 ∧ n = 0 ∨ ∃ g cap, v = .slice (some ⟨g, 0, none⟩) n cap := by
  rcases h.2 with h | ⟨g, cap, _, h, _⟩
  · exact .inl h
  · exact .inr ⟨g, cap, h⟩

/-- One entry of the book, cell by cell. -/
theorem book_cells {w : World} {B g cap : Nat} {cur : List Hd} (h : w.ownsRow B 61 5 (.slice (some ⟨g, 0, none⟩) cur.length cap) cur.length (hcells cur)) (k : Nat) (a : Hd) (hk : cur[k]? = some a) :
    w.cell? ⟨g, k * 5, none⟩ = some a.v ∧ w.cell? ⟨g, k * 5 + 1, none⟩ = some (.int .i64 a.n) ∧ w.cell? ⟨g, k * 5 + 2, none⟩ = some (.int .u8 a.mark) ∧ w.cell? ⟨g, k * 5 + 3, none⟩ = some (.string a.want) ∧ w.cell? ⟨g, k * 5 + 4, none⟩ = some (.bool a.kept) := by
  obtain ⟨hlt, _⟩ := List.getElem?_eq_some_iff.1 hk
  have hj : ∀ j, j < 5 → w.cell? ⟨g, k * 5 + j, none⟩ = a.cells[j]? := fun j hj => by
    rw [h.cellAt (k * 5 + j) (by omega), hcells_at cur k a hk j hj]
  exact ⟨hj 0 (by omega), hj 1 (by omega), hj 2 (by omega), hj 3 (by omega), hj 4 (by omega)⟩

theorem infoHeld : (Tryd.prog.info? 61).map (fun i => (i.zero, i.size, i.bytes)) = some (some (.agg #[.slice none 0 0, .int .i64 0, .int .u8 0, .string ⟨#[]⟩, .bool false]), 5, 64) := by kernel_rfl

end Go.Proofs.YtlnocjicmofjfaaDoor.Bk

/- What is known of the book while it is looked at, and small laws on it; of no statement by themselves. -/
namespace Go.Proofs.YtlnocjicmofjfaaDoor.Bk
open Go.RowKit

theorem from_held (w : World) (a : Nat) (ha : a = w.heap.size) (c0 c1 c2 c3 c4 : Value) : From (w.alloc (.cells #[c0, c1, c2, c3, c4] 61)) (some ⟨a, 0, none⟩) 1 1 5 [c0, c1, c2, c3, c4] := by
  subst ha
  refine ⟨rfl, .inr ⟨_, rfl, fun j u hu => ?_⟩⟩
  have hadd : (⟨w.heap.size, 0, none⟩ : Addr).add j = ⟨w.heap.size, j, none⟩ := by unfold Addr.add; split <;> simp_all
  rw [hadd, World.cell?, heap_alloc_new]
  simpa using hu

theorem held_one (v : Value) (n mark : Int) (want : ByteArray) (kept : Bool) (a : Option Addr) (l c : Nat) (hv : v = .slice a l c) : ∀ u ∈ [v, .int .i64 n, .int .u8 mark, .string want, .bool kept], u.oneCell' = true := by
  subst hv
  intro u hu
  simp at hu
  rcases hu with rfl | rfl | rfl | rfl | rfl <;> rfl

/-- What a list is when the book is handed over. -/
def Hd.ok (h : Hd) : Prop := (h.kept = true ∧ h.ys.length = h.n ∧ h.want = strOfNums h.ys) ∨ (h.kept = false ∧ h.ys = List.replicate (h.n + 70) h.mark)
/-- What it is when those that were left are written full. -/
def Hd.full (h : Hd) : Prop := (h.kept = true ∧ h.ys = List.replicate h.n h.mark) ∨ (h.kept = false ∧ h.ys = List.replicate (h.n + 70) h.mark)
/-- What it is at the end. -/
def Hd.done (h : Hd) : Prop := h.ys = List.replicate (h.n + 70) h.mark

/-- The book and its lists while it is looked at: those ahead of number k are as P says, the others as Q says. -/
structure Looks (T : Nat → Prop) (B N : Nat) (lv : Value) (P Q : Hd → Prop) (w0 : World) (len k : Nat) (cur : List Hd) (w : World) : Prop where
  size : cur.length = len
  book : w.ownsRow N 61 5 lv len (hcells cur)
  rows : RowsIn B w cur
  apart : Apart cur
  ahead : ∀ (i : Nat) (h : Hd), cur[i]? = some h → i < k → P h
  behind : ∀ (i : Nat) (h : Hd), cur[i]? = some h → k ≤ i → Q h
  small : ∀ (i : Nat) (h : Hd), cur[i]? = some h → h.n ≤ 1099511627776
  chg : Chg T w0 w
  into : ∀ (i : Nat) (h : Hd), cur[i]? = some h → ∀ g, h.v.ownBlock = some g → T g ∨ w0.heap.size ≤ g

theorem Looks.new {T : Nat → Prop} {B N : Nat} {lv : Value} {P Q : Hd → Prop} {w0 : World} {len k : Nat} {cur : List Hd} {w w' : World} (h : Looks T B N lv P Q w0 len k cur w) (hc : Chg (fun _ => False) w w') : Looks T B N lv P Q w0 len k cur w' :=
  ⟨h.size, own_keep h.book hc (fun _ _ f => f), rows_new h.rows hc, h.apart, h.ahead, h.behind, h.small, chg_then h.chg hc, h.into⟩

/-- A list that need not be touched. -/
theorem Looks.pass {T : Nat → Prop} {B N : Nat} {lv : Value} {P Q : Hd → Prop} {w0 : World} {len k : Nat} {cur : List Hd} {w : World} {a : Hd} (h : Looks T B N lv P Q w0 len k cur w) (hk : cur[k]? = some a) (hp : P a) : Looks T B N lv P Q w0 len (k + 1) cur w :=
  ⟨h.size, h.book, h.rows, h.apart, fun i b e hi => by
    by_cases ek : i = k
    · subst ek; rw [hk] at e; simp at e; subst e; exact hp
    · exact h.ahead i b e (by omega), fun i b e hi => h.behind i b e (by omega), h.small, h.chg, h.into⟩

theorem set_get {cur : List Hd} {k : Nat} {a' : Hd} (hlt : k < cur.length) (i : Nat) (b : Hd) (e : (cur.set k a')[i]? = some b) : i = k ∧ b = a' ∨ i ≠ k ∧ cur[i]? = some b := by
  by_cases ek : k = i
  · subst ek
    rw [List.getElem?_set_self hlt] at e
    exact .inl ⟨rfl, by simpa using e.symm⟩
  · rw [List.getElem?_set_ne ek] at e
    exact .inr ⟨fun f => ek f.symm, e⟩

/-- A list whose row was written where it lies. -/
theorem Looks.wrote {T : Nat → Prop} {B N : Nat} {lv : Value} {P Q : Hd → Prop} {w0 : World} {len k : Nat} {cur : List Hd} {w w' : World} {a a' : Hd} (h : Looks T B N lv P Q w0 len k cur w) (hk : cur[k]? = some a)
    (hc : Chg (fun b => a.v.ownBlock = some b) w w') (hr : Row B w' a') (hcell : a'.cells = a.cells) (hv : a'.v = a.v) (hn : a'.n = a.n) (hp : P a') : Looks T B N lv P Q w0 len (k + 1) (cur.set k a') w' := by
  obtain ⟨hlt, _⟩ := List.getElem?_eq_some_iff.1 hk
  obtain ⟨hr', ha'⟩ := rows_upd h.rows h.apart hk hc hr (by rw [hv]; exact Moved.refl _ _)
  have hbn : ∀ g, lv.ownBlock = some g → a.v.ownBlock ≠ some g := fun g hg e => by
    obtain ⟨c1, h1⟩ := own_blk h.book hg
    obtain ⟨c2, h2⟩ := own_blk (h.rows k a hk) e
    rw [h1] at h2
    simp at h2
  refine ⟨by simp [h.size], ?_, hr', ha', fun i b e hi => ?_, fun i b e hi => ?_, fun i b e => ?_, h.chg.trans hc (fun b e => h.into k a hk b e), fun i b e g hg => ?_⟩
  · rw [hcells_set_same cur k a a' hk hcell]
    exact own_keep h.book hc (fun g hg f => hbn g hg f)
  · rcases set_get hlt i b e with ⟨rfl, rfl⟩ | ⟨hne, e'⟩
    · exact hp
    · exact h.ahead i b e' (by omega)
  · rcases set_get hlt i b e with ⟨rfl, rfl⟩ | ⟨hne, e'⟩
    · omega
    · exact h.behind i b e' (by omega)
  · rcases set_get hlt i b e with ⟨rfl, rfl⟩ | ⟨hne, e'⟩
    · rw [hn]; exact h.small _ a hk
    · exact h.small i b e'
  · rcases set_get hlt i b e with ⟨rfl, rfl⟩ | ⟨hne, e'⟩
    · rw [hv] at hg; exact h.into _ a hk g hg
    · exact h.into i b e' g hg

/-- A list that was lengthened, and its entry in the book written anew. -/
theorem Looks.grew {T : Nat → Prop} {B N g cap : Nat} {P Q : Hd → Prop} {w0 : World} {len k : Nat} {cur : List Hd} {w w' : World} {a a' : Hd} (h : Looks T B N (.slice (some ⟨g, 0, none⟩) len cap) P Q w0 len k cur w) (hk : cur[k]? = some a) (hN : w0.heap.size ≤ N)
    (hc : Chg (fun b => a.v.ownBlock = some b) w w') (hm : Moved w a.v a'.v) (hr : Row B w' a') (hn : a'.n = a.n) (hp : P a') :
    Looks T B N (.slice (some ⟨g, 0, none⟩) len cap) P Q w0 len (k + 1) (cur.set k a') (((((w'.setCell ⟨g, k * 5, none⟩ a'.v).setCell ⟨g, k * 5 + 1, none⟩ (.int .i64 a'.n)).setCell ⟨g, k * 5 + 2, none⟩ (.int .u8 a'.mark)).setCell ⟨g, k * 5 + 3, none⟩ (.string a'.want)).setCell ⟨g, k * 5 + 4, none⟩ (.bool a'.kept)) := by
  obtain ⟨hlt, _⟩ := List.getElem?_eq_some_iff.1 hk
  obtain ⟨hr', ha'⟩ := rows_upd h.rows h.apart hk hc hr hm
  have hbn : a.v.ownBlock ≠ some g := fun e => by
    obtain ⟨c1, h1⟩ := own_blk h.book (g := g) rfl
    obtain ⟨c2, h2⟩ := own_blk (h.rows k a hk) e
    rw [h1] at h2
    simp at h2
  have hbk := own_keep h.book hc (fun g' hg' f => hbn (by simp [Value.ownBlock] at hg'; rw [hg']; exact f))
  have hg : N ≤ g := (h.book.lt g rfl).1
  have hC : Chg (fun b => b = g) w' (((((w'.setCell ⟨g, k * 5, none⟩ a'.v).setCell ⟨g, k * 5 + 1, none⟩ (.int .i64 a'.n)).setCell ⟨g, k * 5 + 2, none⟩ (.int .u8 a'.mark)).setCell ⟨g, k * 5 + 3, none⟩ (.string a'.want)).setCell ⟨g, k * 5 + 4, none⟩ (.bool a'.kept)) :=
    (((((Chg.refl (fun b => b = g) w').setCell (p := ⟨g, k * 5, none⟩) (.inl rfl) _).setCell (p := ⟨g, k * 5 + 1, none⟩) (.inl rfl) _).setCell (p := ⟨g, k * 5 + 2, none⟩) (.inl rfl) _).setCell (p := ⟨g, k * 5 + 3, none⟩) (.inl rfl) _).setCell (p := ⟨g, k * 5 + 4, none⟩) (.inl rfl) _
  have hgn : ∀ (i : Nat) (b : Hd), (cur.set k a')[i]? = some b → b.v.ownBlock ≠ some g := fun i b e f => by
    obtain ⟨c1, h1⟩ := own_blk hbk (g := g) rfl
    obtain ⟨c2, h2⟩ := own_blk (hr' i b e) f
    rw [h1] at h2
    simp at h2
  refine ⟨by simp [h.size], ?_, rows_keep hr' hC (fun i b e g' hg' f => hgn i b e (by rw [hg', f])), ha', fun i b e hi => ?_, fun i b e hi => ?_, fun i b e => ?_, ?_, fun i b e g' hg' => ?_⟩
  · rw [← hcells_set cur k a' hlt _ _ _ _ _ rfl]
    exact (((((hbk.stored (k * 5) _).1.stored (k * 5 + 1) _).1.stored (k * 5 + 2) _).1.stored (k * 5 + 3) _).1.stored (k * 5 + 4) _).1
  · rcases set_get hlt i b e with ⟨rfl, rfl⟩ | ⟨hne, e'⟩
    · exact hp
    · exact h.ahead i b e' (by omega)
  · rcases set_get hlt i b e with ⟨rfl, rfl⟩ | ⟨hne, e'⟩
    · omega
    · exact h.behind i b e' (by omega)
  · rcases set_get hlt i b e with ⟨rfl, rfl⟩ | ⟨hne, e'⟩
    · rw [hn]; exact h.small _ a hk
    · exact h.small i b e'
  · exact (h.chg.trans hc (fun b e => h.into k a hk b e)).trans hC (fun b e => .inr (by omega))
  · rcases set_get hlt i b e with ⟨rfl, rfl⟩ | ⟨hne, e'⟩
    · rcases hm g' hg' with f | f
      · exact h.into _ a hk g' f
      · have := h.chg.size
        exact .inr (by omega)
    · exact h.into i b e' g' hg'

theorem hcells_snoc (hs : List Hd) (k : Nat) (h : Hd) (hk : hs[k]? = some h) : hcells (hs.take (k + 1)) = hcells (hs.take k) ++ h.cells := by
  obtain ⟨hlt, rfl⟩ := List.getElem?_eq_some_iff.1 hk
  rw [List.take_succ_eq_append_getElem hlt, hcells_append]
  simp [hcells]

theorem book_form {w : World} {B : Nat} {v : Value} {n : Nat} {xs : List Value} (h : w.ownsRow B 61 5 v n xs) : ∃ la lc, v = .slice la n lc ∧ (0 < n → ∃ g, la = some ⟨g, 0, none⟩) := by
  rcases book_shape h with ⟨rfl, e⟩ | ⟨g, cap, rfl⟩
  · exact ⟨none, 0, by rw [e], fun f => by omega⟩
  · exact ⟨_, cap, rfl, fun _ => ⟨g, rfl⟩⟩

/-- One entry of the book while it is looked at. -/
theorem Looks.entry {T : Nat → Prop} {B N g cap : Nat} {P Q : Hd → Prop} {w0 : World} {len k : Nat} {cur : List Hd} {w : World} (h : Looks T B N (.slice (some ⟨g, 0, none⟩) len cap) P Q w0 len k cur w) (i : Nat) (hi : i < len) :
    ∃ a va vc, cur[i]? = some a ∧ a.v = .slice va a.ys.length vc ∧ Row B w a ∧ w.cell? ⟨g, i * 5, none⟩ = some (.slice va a.ys.length vc) ∧ w.cell? ⟨g, i * 5 + 1, none⟩ = some (.int .i64 a.n) ∧ w.cell? ⟨g, i * 5 + 2, none⟩ = some (.int .u8 a.mark) ∧ w.cell? ⟨g, i * 5 + 3, none⟩ = some (.string a.want) ∧ w.cell? ⟨g, i * 5 + 4, none⟩ = some (.bool a.kept) := by
  have hsz := h.size
  subst hsz
  have hk : cur[i]? = some cur[i] := List.getElem?_eq_getElem hi
  obtain ⟨va, vc, hva, _⟩ := own_row8 (h.rows i _ hk)
  obtain ⟨c0, c1, c2, c3, c4⟩ := book_cells h.book i _ hk
  rw [hva] at c0
  exact ⟨_, va, vc, hk, hva, h.rows i _ hk, c0, c1, c2, c3, c4⟩

/-- The entry's cells behind a call that turned the list's row alone; they may be written. -/
theorem Looks.entry_after {T : Nat → Prop} {B N g cap : Nat} {P Q : Hd → Prop} {w0 : World} {len k : Nat} {cur : List Hd} {w w' : World} {a : Hd} (h : Looks T B N (.slice (some ⟨g, 0, none⟩) len cap) P Q w0 len k cur w) (i : Nat) (hk : cur[i]? = some a)
    (hc : Chg (fun b => a.v.ownBlock = some b) w w') :
    (w'.cell? ⟨g, i * 5, none⟩ = some a.v ∧ w'.cell? ⟨g, i * 5 + 1, none⟩ = some (.int .i64 a.n) ∧ w'.cell? ⟨g, i * 5 + 2, none⟩ = some (.int .u8 a.mark) ∧ w'.cell? ⟨g, i * 5 + 3, none⟩ = some (.string a.want) ∧ w'.cell? ⟨g, i * 5 + 4, none⟩ = some (.bool a.kept)) ∧ ∀ j, w'.frozen? ⟨g, j, none⟩ = false := by
  have hsz := h.size
  subst hsz
  have hbn : a.v.ownBlock ≠ some g := fun e => by
    obtain ⟨c1, h1⟩ := own_blk h.book (g := g) rfl
    obtain ⟨c2, h2⟩ := own_blk (h.rows i a hk) e
    rw [h1] at h2
    simp at h2
  have hbk := own_keep h.book hc (fun g' hg' f => hbn (by simp [Value.ownBlock] at hg'; rw [hg']; exact f))
  exact ⟨book_cells hbk i a hk, fun j => hbk.frozenAt j⟩

theorem chg_eq {v v' : Value} {w w' : World} (e : v = v') (h : Chg (fun b => v'.ownBlock = some b) w w') : Chg (fun b => v.ownBlock = some b) w w' := by subst e; exact h
theorem moved_eq {v v' u : Value} {w : World} (e : v = v') (h : Moved w v' u) : Moved w v u := by subst e; exact h
end Go.Proofs.YtlnocjicmofjfaaDoor.Bk

/- The contract of the statements' own function held, of no statement by itself. -/
namespace Go.Proofs.YtlnocjicmofjfaaDoor.Bk
open Go.RowKit

set_option maxRecDepth 100000 in
set_option maxHeartbeats 4000000 in
theorem held_fine (B : Nat) (lv : Value) (hs : List Hd) (w : World) (hB : B ≤ w.heap.size) (hl : w.ownsRow B 61 5 lv hs.length (hcells hs)) (hr : RowsIn B w hs) (ha : Apart hs) (hok : ∀ h ∈ hs, h.ok) (hlen : hs.length ≤ 16777216) (hn : ∀ h ∈ hs, h.n ≤ 1099511627776) :
    Calls Tryd.prog 30 #[lv] w fun e w' => e = .returned (.bool true) ∧ Chg (fun b => ∃ h ∈ hs, h.v.ownBlock = some b) w w' := by
  obtain ⟨j0, hj, hj0, hj1, hj2⟩ := info_parts infoHeld
  obtain ⟨TT, HTT⟩ : ∃ TT : Nat → Prop, Hid (TT = (fun b => ∃ h ∈ hs, h.v.ownBlock = some b)) := ⟨_, rfl⟩
  obtain ⟨la, lc, rfl, hlg⟩ : ∃ la lc, lv = .slice la hs.length lc ∧ (0 < hs.length → ∃ g, la = some ⟨g, 0, none⟩) := by
    rcases book_shape hl with ⟨rfl, e⟩ | ⟨g, cap, rfl⟩
    · exact ⟨none, 0, by rw [e], fun f => by omega⟩
    · exact ⟨_, cap, rfl, fun _ => ⟨g, rfl⟩⟩
  go_enter Tryd.func30, Tryd.ntmps30
  go_wp2_with fail
  go_loopw [3, 16] (fun l i wr => ∃ k : Nat, k ≤ hs.length ∧ i = .int .i64 k ∧ Chg (fun _ => False) w wr ∧ wr.ownsRow w.heap.size 61 5 l k (hcells (hs.take k))) (fun _ i _ => hs.length - (intOf i).toNat)
  case atStart => exact ⟨0, Nat.zero_le _, rfl, Chg.refl _ _, World.ownsRow_nil _ _ _ _⟩
  case round =>
    obtain ⟨k, hk, rfl, hcr, hlr⟩ := hrel
    by_cases hlt : k < hs.length
    · obtain ⟨g, rfl⟩ := hlg (by omega)
      obtain ⟨h, hhk⟩ : ∃ h, hs[k]? = some h := ⟨hs[k], List.getElem?_eq_getElem hlt⟩
      have hmem := List.mem_of_getElem? hhk
      have hlw := own_keep hl hcr (fun _ _ f => f)
      obtain ⟨c0, c1, c2, c3, c4⟩ := book_cells hlw k h hhk
      have hrow : Row B _ h := ownsRow_keep (hr k h hhk) hcr (fun _ _ f => f)
      obtain ⟨va, vc, hva, hrr⟩ := own_row8 hrow
      have hcv := fun o => conv8_here (row8_alloc hrr o)
      have HS := hcells_snoc hs k h hhk
      unfold Hd.cells at HS
      rw [hva] at c0 HS
      have hbz : w.heap.size ≤ wr.heap.size := hcr.size
      have hal := fun o o' => (hlr.alloc o).alloc o'
      have hlt2 := fun b e => (hlr.lt b e).1
      clear hva hrow hrr hr ha hl
      rcases hok h hmem with ⟨e1, e2, e3⟩ | ⟨e1, e2⟩
      · rw [e3] at c3 HS
        rw [e1] at c4 HS
        have HSH : Hid (hcells (hs.take (k + 1)) = hcells (hs.take k) ++ [.slice va h.ys.length vc, .int .i64 h.n, .int .u8 h.mark, .string (strOfNums h.ys), .bool true]) := HS
        clear e1 e2 e3 hlw hok hn HS
        go_wp2_with (at_builtin; refine wpList_append_moved rfl (.tmp 30) (.tmp 32) 53 rfl w.heap.size 61 j0 (.agg #[.slice none 0 0, .int .i64 0, .int .u8 0, .string ⟨#[]⟩, .bool false]) 5 64 Tryd.underlying53 hj hj0 hj1 hj2 rfl (by decide) _ k (hcells (hs.take k)) rfl _ 1 1 rfl [.slice va h.ys.length vc, .int .i64 h.n, .int .u8 h.mark, .string (strOfNums h.ys), .bool true] (hal _ _) (from_held _ (wr.heap.size + 1) (by simp) _ _ _ _ _) (held_one _ _ _ _ _ _ _ _ rfl) (by unfold maxLen; omega) (by omega) (by simp; omega) ?_)
        intro v1 w1 hown hg _
        have hc1 : Chg (fun _ => False) w w1 := ((hcr.alloc _).alloc _).grown hg (fun b e => .inr (hlt2 b e))
        rw [← HSH.out] at hown
        clear hg hal hlr hcr c0 c1 c2 c3 c4 hcv
        go_wp2
        go_roundw
        case rel => exact ⟨k + 1, by omega, by go_num, hc1, hown⟩
        case measure => simp [intOf]; omega
      · rw [e1] at c4 HS
        have HSH : Hid (hcells (hs.take (k + 1)) = hcells (hs.take k) ++ [.slice va h.ys.length vc, .int .i64 h.n, .int .u8 h.mark, .string h.want, .bool false]) := HS
        clear e1 e2 hlw hok hn HS hcv
        go_wp2_with (at_builtin; refine wpList_append_moved rfl (.tmp 30) (.tmp 32) 53 rfl w.heap.size 61 j0 (.agg #[.slice none 0 0, .int .i64 0, .int .u8 0, .string ⟨#[]⟩, .bool false]) 5 64 Tryd.underlying53 hj hj0 hj1 hj2 rfl (by decide) _ k (hcells (hs.take k)) rfl _ 1 1 rfl [.slice va h.ys.length vc, .int .i64 h.n, .int .u8 h.mark, .string h.want, .bool false] (hal _ _) (from_held _ (wr.heap.size + 1) (by simp) _ _ _ _ _) (held_one _ _ _ _ _ _ _ _ rfl) (by unfold maxLen; omega) (by omega) (by simp; omega) ?_)
        intro v1 w1 hown hg _
        have hc1 : Chg (fun _ => False) w w1 := ((hcr.alloc _).alloc _).grown hg (fun b e => .inr (hlt2 b e))
        rw [← HSH.out] at hown
        clear hg hal hlr hcr c0 c1 c2 c3 c4
        go_wp2
        go_roundw
        case rel => exact ⟨k + 1, by omega, by go_num, hc1, hown⟩
        case measure => simp [intOf]; omega
    · obtain rfl : k = hs.length := by omega
      rw [List.take_length] at hlr
      have hL0 : Looks TT B w.heap.size _ Hd.full Hd.ok w hs.length 0 hs wr := ⟨rfl, hlr, rows_new hr hcr, ha, fun i h e hi => by omega, fun i h e _ => hok h (List.mem_of_getElem? e), fun i h e => hn h (List.mem_of_getElem? e), chg_none hcr, fun i h e g hg => .inl (by rw [HTT.out]; exact ⟨h, List.mem_of_getElem? e, hg⟩)⟩
      clear hr ha hok hn hcr hl hlg
      generalize hs.length = len at *
      obtain ⟨la2, lc2, e, hlg⟩ := book_form hlr
      subst e
      clear hlr
      go_wp2_with fail
      go_loopw [37] (fun i wr => ∃ k : Nat, k ≤ len ∧ i = .int .i64 k ∧ ∃ cur, Looks TT B w.heap.size (.slice la2 len lc2) Hd.full Hd.ok w len k cur wr) (fun i _ => len - (intOf i).toNat)
      case atStart => exact ⟨0, Nat.zero_le _, rfl, hs, hL0⟩
      case round =>
        clear hL0
        obtain ⟨k2, hk2, rfl, cur, hL⟩ := hrel
        by_cases hlt2 : k2 < len
        · obtain ⟨g, rfl⟩ := hlg (by omega)
          obtain ⟨a, va, vc, hak, hva, hrow, c0, c1, c2, c3, c4⟩ := hL.entry k2 hlt2
          have hq := hL.behind k2 a hak (Nat.le_refl _)
          have hsm := hL.small k2 a hak
          rcases hq with ⟨e1, e2, e3⟩ | ⟨e1, e2⟩
          · rw [e1] at c4
            have hro := hrow
            unfold Row at hro
            rw [hva, e2] at hro
            rw [e2] at c0
            have hrA := hro.alloc (.cells #[.slice va a.n vc, .int .i64 a.n, .int .u8 a.mark, .string a.want, .bool true] 61)
            have hcall := written_any B _ a.mark a.ys a.want true a.n _ e2 (by omega) hrA
            have hLA := hL.new (chg_one (fun _ => False) _ (.cells #[.slice va a.n vc, .int .i64 a.n, .int .u8 a.mark, .string a.want, .bool true] 61))
            have HE : Hid (a.kept = true ∧ a.ys.length = a.n ∧ a.v = .slice va a.n vc) := ⟨e1, e2, by rw [hva, e2]⟩
            clear hro hrA e1 e2 e3 hva hrow hL
            go_wp2_with fail
            refine hcall.mono ?_
            rintro e w5 ⟨rfl, ho5, hc5⟩
            obtain ⟨E1, E2, E3⟩ := HE.out
            have hL5 := hLA.wrote (a' := ⟨a.v, a.n, a.mark, a.want, a.kept, List.replicate a.n a.mark⟩) hak (by rw [E3]; exact hc5) (by unfold Row; simp only [List.length_replicate]; rw [E3]; exact ho5) rfl rfl rfl (.inl ⟨E1, rfl⟩)
            clear hcall hLA ho5 hc5 c0 c1 c2 c3 c4 E1 E2 E3 HE
            go_wp2
            go_roundw
            case rel => exact ⟨k2 + 1, by omega, by go_num, _, hL5⟩
            case measure => simp [intOf]; omega
          · rw [e1] at c4
            have hL5 := (hL.pass hak (.inr ⟨e1, e2⟩)).new (chg_one (fun _ => False) _ (.cells #[.slice va a.ys.length vc, .int .i64 a.n, .int .u8 a.mark, .string a.want, .bool false] 61))
            clear e1 e2 hva hrow hL
            go_wp2
            go_roundw
            case rel => exact ⟨k2 + 1, by omega, by go_num, _, hL5⟩
            case measure => simp [intOf]; omega
        · obtain rfl : k2 = len := by omega
          have hL0 : Looks TT B w.heap.size (.slice la2 k2 lc2) Hd.done Hd.full w k2 0 cur wr := ⟨hL.size, hL.book, hL.rows, hL.apart, fun i h e hi => by omega, fun i h e _ => hL.ahead i h e (by rw [← hL.size]; exact (List.getElem?_eq_some_iff.1 e).1), hL.small, hL.chg, hL.into⟩
          clear hL
          go_wp2_with fail
          go_loopw [48] (fun i wr => ∃ k : Nat, k ≤ k2 ∧ i = .int .i64 k ∧ ∃ cur, Looks TT B w.heap.size (.slice la2 k2 lc2) Hd.done Hd.full w k2 k cur wr) (fun i _ => k2 - (intOf i).toNat)
          case atStart => exact ⟨0, Nat.zero_le _, rfl, cur, hL0⟩
          case round =>
            clear hL0
            obtain ⟨k3, hk3, rfl, cur3, hL⟩ := hrel
            by_cases hlt3 : k3 < k2
            · obtain ⟨g, rfl⟩ := hlg (by omega)
              obtain ⟨a, va, vc, hak, hva, hrow, c0, c1, c2, c3, c4⟩ := hL.entry k3 hlt3
              have hq := hL.behind k3 a hak (Nat.le_refl _)
              have hsm := hL.small k3 a hak
              rcases hq with ⟨e1, e2⟩ | ⟨e1, e2⟩
              · rw [e1] at c4
                have el : a.ys.length = a.n := by rw [e2]; simp
                have hro := hrow
                unfold Row at hro
                rw [hva, el] at hro
                rw [el] at c0
                have hrA := hro.alloc (.cells #[.slice va a.n vc, .int .i64 a.n, .int .u8 a.mark, .string a.want, .bool true] 61)
                have hLA := hL.new (chg_one (fun _ => False) _ (.cells #[.slice va a.n vc, .int .i64 a.n, .int .u8 a.mark, .string a.want, .bool true] 61))
                have hcall := grown_any B _ a.mark a.ys a.want true a.n a.n _ el (by omega) hrA (by have := hLA.chg.size; omega)
                have HE : Hid (a.kept = true ∧ a.ys = List.replicate a.n a.mark ∧ a.v = .slice va a.n vc) := ⟨e1, e2, by rw [hva, el]⟩
                clear hro hrA e1 e2 el hva hrow hL
                go_wp2_with fail
                refine hcall.mono ?_
                rintro e w5 ⟨v5, rfl, ho5, hc5, hm5⟩
                obtain ⟨E1, E2, E3⟩ := HE.out
                have hc5' := chg_eq E3 hc5
                have hm5' := moved_eq E3 hm5
                have hL5 := hLA.grew (a' := ⟨v5, a.n, a.mark, a.want, true, a.ys ++ List.replicate 70 a.mark⟩) hak (Nat.le_refl _) hc5' hm5' (by unfold Row; simp only [List.length_append, List.length_replicate]; rw [E2, List.length_replicate, ← E2]; exact ho5) rfl (by unfold Hd.done; simp only; rw [E2, List.replicate_append_replicate])
                obtain ⟨⟨b0, b1, b2, b3, b4⟩, hfz⟩ := hLA.entry_after k3 hak hc5'
                simp only at hL5
                rw [E3] at b0
                rw [E1] at b4
                obtain ⟨va5, vc5, rfl⟩ : ∃ va5 vc5, v5 = .slice va5 (a.n + 70) vc5 := by
                  rcases own_shape ho5 with ⟨_, e⟩ | ⟨g, cap, rfl⟩
                  · omega
                  · exact ⟨_, cap, rfl⟩
                clear hcall hLA ho5 hc5 hm5 hc5' hm5' c0 c1 c2 c3 c4 E1 E2 E3 HE
                go_wp2
                go_roundw
                case rel => exact ⟨k3 + 1, by omega, by go_num, _, hL5⟩
                case measure => simp [intOf]; omega
              · rw [e1] at c4
                have hL5 := (hL.pass hak e2).new (chg_one (fun _ => False) _ (.cells #[.slice va a.ys.length vc, .int .i64 a.n, .int .u8 a.mark, .string a.want, .bool false] 61))
                clear e1 e2 hva hrow hL
                go_wp2
                go_roundw
                case rel => exact ⟨k3 + 1, by omega, by go_num, _, hL5⟩
                case measure => simp [intOf]; omega
            · obtain rfl : k3 = k2 := by omega
              have hD : ∀ (i : Nat) (h : Hd), cur3[i]? = some h → h.done := fun i h e => hL.ahead i h e (by rw [← hL.size]; exact (List.getElem?_eq_some_iff.1 e).1)
              go_wp2_with fail
              go_loopw [63] (fun i wq => ∃ k : Nat, k ≤ k3 ∧ i = .int .i64 k ∧ Looks TT B w.heap.size (.slice la2 k3 lc2) Hd.done Hd.full w k3 k3 cur3 wq) (fun i _ => k3 - (intOf i).toNat)
              case atStart => exact ⟨0, Nat.zero_le _, rfl, hL⟩
              case round =>
                clear hL
                obtain ⟨k4, hk4, rfl, hL⟩ := hrel
                by_cases hlt4 : k4 < k3
                · obtain ⟨g, rfl⟩ := hlg (by omega)
                  obtain ⟨a, va, vc, hak, hva, hrow, c0, c1, c2, c3, c4⟩ := hL.entry k4 hlt4
                  have hd := hD k4 a hak
                  have hsm := hL.small k4 a hak
                  have el : a.ys.length = a.n + 70 := by rw [hd]; simp
                  rw [el] at c0 hva
                  have hro := hrow
                  unfold Row at hro
                  rw [hva, el] at hro
                  have hLA := hL.new (chg_one (fun _ => False) _ (.cells #[.slice va (a.n + 70) vc, .int .i64 a.n, .int .u8 a.mark, .string a.want, .bool a.kept] 61))
                  have hrA := hro.alloc (.cells #[.slice va (a.n + 70) vc, .int .i64 a.n, .int .u8 a.mark, .string a.want, .bool a.kept] 61)
                  obtain ⟨va', vc', e', hrr⟩ := own_row8 hrA
                  simp only [Value.slice.injEq] at e'
                  obtain ⟨rfl, _, rfl⟩ := e'
                  obtain ⟨x, rfl, hxc⟩ := row8_cells hrr (by omega)
                  have hxm : ∀ j, j < a.n + 70 → (_ : World).cell? (x.add j) = some (.int .u8 a.mark) := fun j hj => by
                    rw [hxc j hj, hd]
                    simp [List.getD, hj]
                  clear hro hrA hrr hxc hva hrow hL el hd
                  go_wp2_with fail
                  go_loop [77] (fun i => ∃ m : Nat, m ≤ a.n + 70 ∧ i = .int .i64 m) (fun i => a.n + 70 - (intOf i).toNat)
                  case atStart => exact ⟨0, Nat.zero_le _, rfl⟩
                  case round =>
                    obtain ⟨m, hm, rfl⟩ := hrel
                    by_cases hltm : m < a.n + 70
                    · have hxk := hxm m hltm
                      clear hxm
                      go_wp2
                      go_round
                      case rel => exact ⟨m + 1, by omega, by go_num⟩
                      case measure => simp [intOf]; omega
                    · obtain rfl : m = a.n + 70 := by omega
                      clear hxm
                      go_wp2
                      go_roundw
                      case rel => exact ⟨k4 + 1, by omega, by go_num, hLA⟩
                      case measure => simp [intOf]; omega
                · obtain rfl : k4 = k3 := by omega
                  have hC := hL.chg
                  rw [HTT.out] at hC
                  clear hL hD
                  go_wp2
                  go_ret
                  exact ⟨rfl, hC⟩

theorem held_walk (B : Nat) (lv : Value) (hs : List Hd) (w : World) (hB : B ≤ w.heap.size) (hl : w.ownsRow B 61 5 lv hs.length (hcells hs)) (hr : RowsIn B w hs) (ha : Apart hs) (hok : ∀ h ∈ hs, h.ok) (hlen : hs.length ≤ 16777216) (hn : ∀ h ∈ hs, h.n ≤ 1099511627776) :
    Calls Tryd.prog 30 #[lv] w fun e w' => e = .returned (.bool true) ∧ Chg (fun b => B ≤ b) w w' :=
  (held_fine B lv hs w hB hl hr ha hok hlen hn).mono fun _ _ ⟨he, hc⟩ => ⟨he, hc.mono (fun b ⟨h, hm, e⟩ => .inl (by
    obtain ⟨i, hi⟩ := List.mem_iff_getElem?.1 hm
    exact ((hr i h hi).lt e).1))⟩

end Go.Proofs.YtlnocjicmofjfaaDoor.Bk

/- The book, kept while a walk goes on; the contract of hold; of no statement by itself. -/
namespace Go.Proofs.YtlnocjicmofjfaaDoor.Bk
open Go.RowKit

/-- The book of the lists that are held. -/
structure Bk (B : Nat) (w : World) (lv : Value) (hs : List Hd) : Prop where
  book : w.ownsRow B 61 5 lv hs.length (hcells hs)
  rows : RowsIn B w hs
  apart : Apart hs
  ok : ∀ h ∈ hs, h.ok
  small : ∀ h ∈ hs, h.n ≤ 1099511627776

theorem Bk.nil (B : Nat) (w : World) : Bk B w (.slice none 0 0) [] :=
  ⟨World.ownsRow_nil _ _ _ _, fun i h e => by simp at e, fun i j a b e => by simp at e, fun h e => by simp at e, fun h e => by simp at e⟩

theorem Bk.keep {B : Nat} {w w' : World} {lv : Value} {hs : List Hd} {S : Nat → Prop} (h : Bk B w lv hs) (hc : Chg S w w') (h1 : ∀ g, lv.ownBlock = some g → ¬ S g) (h2 : ∀ g cur, w.heap[g]? = some (.cells cur 5 (0, 0)) → ¬ S g) : Bk B w' lv hs :=
  ⟨own_keep h.book hc h1, rows_keep h.rows hc (fun i a e g hg => by obtain ⟨cur, hb⟩ := own_blk (h.rows i a e) hg; exact h2 g cur hb), h.apart, h.ok, h.small⟩
theorem Bk.new {B : Nat} {w w' : World} {lv : Value} {hs : List Hd} (h : Bk B w lv hs) (hc : Chg (fun _ => False) w w') : Bk B w' lv hs := h.keep hc (fun _ _ f => f) (fun _ _ _ f => f)

/-- The book with one list more: the list's row is a new one, the book lies where it lay or in new memory. -/
theorem Bk.push {B : Nat} {w w2 w3 : World} {lv lv' : Value} {hs : List Hd} {h : Hd} {o : Obj} (hb : Bk B w lv hs) (hb2 : Bk B w2 lv hs) (hr : Row B w2 h) (hnew : ∀ g, h.v.ownBlock = some g → w.heap.size ≤ g) (hok : h.ok) (hn : h.n ≤ 1099511627776)
    (hown : w3.ownsRow B 61 5 lv' (hs.length + 1) (hcells hs ++ h.cells)) (hg : (w2.alloc o).grownBy w3 lv.ownBlock) : Bk B w3 lv' (hs ++ [h]) := by
  have hc : Chg (fun k => lv.ownBlock = some k) w2 w3 := ((Chg.refl _ w2).alloc o).grown hg (fun k e => .inl e)
  have hget : ∀ (i : Nat) (a : Hd), (hs ++ [h])[i]? = some a → i < hs.length ∧ hs[i]? = some a ∨ i = hs.length ∧ a = h := fun i a e => by
    by_cases hi : i < hs.length
    · rw [List.getElem?_append_left hi] at e; exact .inl ⟨hi, e⟩
    · rw [List.getElem?_append_right (by omega)] at e
      by_cases hi2 : i = hs.length
      · subst hi2; simp at e; exact .inr ⟨rfl, e.symm⟩
      · rw [List.getElem?_eq_none (by simp; omega)] at e; cases e
  refine ⟨?_, fun i a e => ?_, fun i j a b ei ej hij g hg1 hg2 => ?_, fun a ha => ?_, fun a ha => ?_⟩
  · rw [List.length_append, hcells_append]
    simpa [hcells] using hown
  · rcases hget i a e with ⟨_, e'⟩ | ⟨_, rfl⟩
    · exact ownsRow_keep (hb2.rows i a e') hc (fun g hg f => book_ne hb2.book (hb2.rows i a e') f hg)
    · exact ownsRow_keep hr hc (fun g hg f => book_ne hb2.book hr f hg)
  · rcases hget i a ei with ⟨_, ei'⟩ | ⟨hi, rfl⟩
    · rcases hget j b ej with ⟨_, ej'⟩ | ⟨hj, rfl⟩
      · exact hb.apart i j a b ei' ej' hij g hg1 hg2
      · have h1 := (hb.rows i a ei').lt hg1
        have h2 := hnew g hg2
        omega
    · rcases hget j b ej with ⟨_, ej'⟩ | ⟨hj, rfl⟩
      · have h1 := (hb.rows j b ej').lt hg2
        have h2 := hnew g hg1
        omega
      · omega
  · rcases List.mem_append.1 ha with e | e
    · exact hb.ok a e
    · simp at e; subst e; exact hok
  · rcases List.mem_append.1 ha with e | e
    · exact hb.small a e
    · simp at e; subst e; exact hn

/-- What 'hold' leaves. -/
theorem hold_any (B : Nat) (v : Value) (xs : List Int) (n k : Nat) (w : World) (hn : n ≤ 1099511627776) (h : w.ownsRow B 5 1 v n (cells8 xs)) (hB : B ≤ w.heap.size) (hk : k ≤ 1000000000) :
    Calls Tryd.prog 24 #[v, .int .i64 k] w fun e w' => ∃ (h' : Hd) (va : Option Addr) (vc : Nat), e = .returned (.agg #[.slice va h'.ys.length vc, .int .i64 h'.n, .int .u8 h'.mark, .string h'.want, .bool h'.kept]) ∧ h'.v = .slice va h'.ys.length vc ∧ h'.ok ∧ h'.n = n ∧ Row B w' h' ∧ Chg (fun b => v.ownBlock = some b) w w' ∧ Moved w v h'.v := by
  have hxl : xs.length = n := by simpa [cells8] using h.1
  by_cases hev : k % 2 = 0
  · refine (hold_even B v xs n k w h hk hev).mono fun e w' ⟨he, hc⟩ => ?_
    have hrow : Row B w' ⟨v, n, holdMark k, strOfNums xs, true, xs⟩ := by unfold Row; simp only; rw [hxl]; exact ownsRow_keep h hc (fun _ _ f => f)
    obtain ⟨va, vc, hva, _⟩ := own_row8 hrow
    refine ⟨⟨v, n, holdMark k, strOfNums xs, true, xs⟩, va, vc, ?_, hva, .inl ⟨rfl, hxl, rfl⟩, rfl, hrow, hc.mono (fun _ f => f.elim), Moved.refl _ _⟩
    rw [he]
    simp only at hva
    simp only [hva]
  · refine (hold_odd B v xs n k w (by omega) hxl h hB hk (by omega)).mono fun e w' ⟨v', he, ho, hc, hm⟩ => ?_
    have hrow : Row B w' ⟨v', n, holdMark k, strOfNums xs, false, List.replicate (n + 70) (holdMark k)⟩ := by unfold Row; simp only [List.length_replicate]; exact ho
    obtain ⟨va, vc, hva, _⟩ := own_row8 hrow
    refine ⟨⟨v', n, holdMark k, strOfNums xs, false, List.replicate (n + 70) (holdMark k)⟩, va, vc, ?_, hva, .inr ⟨rfl, rfl⟩, rfl, hrow, hc, hm⟩
    rw [he]
    simp only at hva
    simp only [hva]

end Go.Proofs.YtlnocjicmofjfaaDoor.Bk
