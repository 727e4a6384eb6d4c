/- The contracts of the statements' own functions written, grown and hold, of no statement by themselves. -/
import Derived.Test.YtefplppgkoanbaaBk
namespace Go.Proofs.Ytefplppgkoanbaa.Bk
open Go.RowKit

/-- A list that is held: the slice, how many bytes it had, its mark, what it was, whether it was left as it was; and the bytes that it has now. -/
structure Hd where
  v : Value
  n : Nat
  mark : Int
  want : ByteArray
  kept : Bool
  ys : List Int

def Hd.cells (h : Hd) : List Value := [h.v, .int .i64 h.n, .int .u8 h.mark, .string h.want, .bool h.kept]
def Hd.val (h : Hd) : Value := .agg #[h.v, .int .i64 h.n, .int .u8 h.mark, .string h.want, .bool h.kept]

/-- A list with its first k bytes written. -/
def over (mark : Int) (ys : List Int) (k : Nat) : List Int := List.replicate k mark ++ ys.drop k

theorem over_len (mark : Int) (ys : List Int) (k : Nat) (h : k ≤ ys.length) : (over mark ys k).length = ys.length := by simp [over]; omega
theorem over_set (mark : Int) (ys : List Int) (k : Nat) (h : k < ys.length) : (over mark ys k).set k mark = over mark ys (k + 1) := by
  unfold over
  rw [List.set_append_right _ _ (by simp)]
  simp only [List.length_replicate, Nat.sub_self]
  rw [List.drop_eq_getElem_cons h, List.set_cons_zero, List.replicate_succ', List.append_assoc]
  rfl
theorem over_all (mark : Int) (ys : List Int) : over mark ys ys.length = List.replicate ys.length mark := by simp [over]

set_option maxRecDepth 100000 in
set_option maxHeartbeats 1000000 in
theorem written_some (B g cap n : Nat) (mark : Int) (ys : List Int) (want : ByteArray) (kept : Bool) (w : World) (hn : ys.length = n) (hl : n ≤ 140737488355328)
    (h : w.ownsRow B 5 1 (.slice (some ⟨g, 0, none⟩) n cap) n (cells8 ys)) :
    Calls Try.prog 25 #[.agg #[.slice (some ⟨g, 0, none⟩) n cap, .int .i64 n, .int .u8 mark, .string want, .bool kept]] w fun e w' => e = .returned (.tuple #[]) ∧ w'.ownsRow B 5 1 (.slice (some ⟨g, 0, none⟩) n cap) n (cells8 (List.replicate n mark)) ∧ Chg (fun k => k = g) w w' := by
  have hg := (h.lt g rfl).2
  go_enter Try.func25, Try.ntmps25
  go_wp2_with fail
  go_loopw [2] (fun i wr => ∃ k : Nat, k ≤ n ∧ i = .int .i64 k ∧ wr.ownsRow B 5 1 (.slice (some ⟨g, 0, none⟩) n cap) n (cells8 (over mark ys k)) ∧ Chg (fun k => k = g) (w.alloc (.cells #[.slice (some ⟨g, 0, none⟩) n cap, .int .i64 n, .int .u8 mark, .string want, .bool kept] 49)) wr) (fun i _ => n - (intOf i).toNat)
  case atStart => exact ⟨0, Nat.zero_le _, rfl, by simpa [over] using h.alloc _, Chg.refl _ _⟩
  case round =>
    obtain ⟨k, hk, rfl, ho, hc⟩ := hrel
    have hbx : wr.heap[w.heap.size]? = some (.cells #[.slice (some ⟨g, 0, none⟩) n cap, .int .i64 n, .int .u8 mark, .string want, .bool kept] 49 (0, 0)) :=
      (hc.block w.heap.size (by simp) (by omega)).trans (heap_alloc_new w _)
    have b0 : wr.cell? ⟨w.heap.size, 0, none⟩ = some (.slice (some ⟨g, 0, none⟩) n cap) := by rw [World.cell?, hbx]; rfl
    have b1 : wr.cell? ⟨w.heap.size, 1, none⟩ = some (.int .i64 n) := by rw [World.cell?, hbx]; rfl
    have b2 : wr.cell? ⟨w.heap.size, 2, none⟩ = some (.int .u8 mark) := by rw [World.cell?, hbx]; rfl
    clear hbx
    by_cases hlt : k < n
    · obtain ⟨z, ck⟩ : ∃ z, wr.cell? ⟨g, k, none⟩ = some (.int .u8 z) := by
        rw [ho.cellAt k (by omega)]
        have hkl : k < (over mark ys k).length := by rw [over_len mark ys k (by omega)]; omega
        exact ⟨(over mark ys k)[k], by simp [cells8, hkl]⟩
      have fk := ho.frozenAt k
      have R : (wr.setCell ⟨g, k, none⟩ (.int .u8 mark)).ownsRow B 5 1 (.slice (some ⟨g, 0, none⟩) n cap) n (cells8 (over mark ys (k + 1))) := by
        have := (ho.stored k (.int .u8 mark)).1
        rw [← over_set mark ys k (by omega)]
        simpa [cells8, List.map_set] using this
      have C := hc.setCell (p := ⟨g, k, none⟩) (.inl rfl) (.int .u8 mark)
      clear ho hc
      go_wp2
      go_roundw
      case rel => exact ⟨k + 1, by omega, by go_num, R, C⟩
      case measure => simp [intOf]; omega
    · obtain rfl : k = n := by omega
      rw [← hn, over_all, hn] at ho
      go_wp2
      go_end0
      exact ⟨rfl, ho, (chg_one _ w _).trans hc (fun i f => .inl f)⟩

set_option maxRecDepth 100000 in
set_option maxHeartbeats 1000000 in
theorem written_nil (mark : Int) (want : ByteArray) (kept : Bool) (w : World) :
    Calls Try.prog 25 #[.agg #[.slice none 0 0, .int .i64 0, .int .u8 mark, .string want, .bool kept]] w fun e w' => e = .returned (.tuple #[]) ∧ Chg (fun _ => False) w w' := by
  go_enter Try.func25, Try.ntmps25
  go_wp2_with fail
  refine wp_loop_rounds 1 ?_
  rw [rounds_succ]
  go_wp2
  go_end0
  exact ⟨rfl, chg_one _ w _⟩

/-- The list is written full of its mark. -/
theorem written_any (B : Nat) (v : Value) (mark : Int) (ys : List Int) (want : ByteArray) (kept : Bool) (n : Nat) (w : World) (hn : ys.length = n) (hl : n ≤ 140737488355328) (h : w.ownsRow B 5 1 v n (cells8 ys)) :
    Calls Try.prog 25 #[.agg #[v, .int .i64 n, .int .u8 mark, .string want, .bool kept]] w fun e w' => e = .returned (.tuple #[]) ∧ w'.ownsRow B 5 1 v n (cells8 (List.replicate n mark)) ∧ Chg (fun k => v.ownBlock = some k) w w' := by
  rcases own_shape h with ⟨rfl, rfl⟩ | ⟨g, cap, rfl⟩
  · refine (written_nil mark want kept w).mono fun e w' ⟨he, hc⟩ => ⟨he, ?_, hc.mono (fun _ f => f.elim)⟩
    exact World.ownsRow_nil _ _ _ _
  · refine (written_some B g cap n mark ys want kept w hn hl h).mono fun e w' ⟨he, ho, hc⟩ => ⟨he, ho, hc.mono (fun i e => .inl (by simp [Value.ownBlock, e]))⟩

/-- The list with three marks behind it: what the call answers, the list, and that it lies where it lay or in new memory. -/
def Grows (B : Nat) (v v' : Value) (n m : Nat) (ys : List Int) (mark : Int) (w w' : World) : Prop :=
  w'.ownsRow B 5 1 v' (n + m) (cells8 (ys ++ List.replicate m mark)) ∧ Chg (fun k => v.ownBlock = some k) w w' ∧ Moved w v v'

theorem blk5_cell {w : World} {a : Nat} {c0 c1 c2 c3 c4 : Value} {t : TypeId} (h : w.heap[a]? = some (.cells #[c0, c1, c2, c3, c4] t (0, 0))) :
    w.cell? ⟨a, 0, none⟩ = some c0 ∧ w.cell? ⟨a, 1, none⟩ = some c1 ∧ w.cell? ⟨a, 2, none⟩ = some c2 ∧ w.cell? ⟨a, 3, none⟩ = some c3 ∧ w.cell? ⟨a, 4, none⟩ = some c4 := by
  simp [World.cell?, h]
theorem blk5_free {w : World} {a : Nat} {cs : Array Value} {t : TypeId} (h : w.heap[a]? = some (.cells cs t (0, 0))) (i : Nat) : w.frozen? ⟨a, i, none⟩ = false := by simp [World.frozen?, h]
theorem blk5_set0 {w : World} {a : Nat} {c0 c1 c2 c3 c4 u : Value} {t : TypeId} (h : w.heap[a]? = some (.cells #[c0, c1, c2, c3, c4] t (0, 0))) : (w.setCell ⟨a, 0, none⟩ u).heap[a]? = some (.cells #[u, c1, c2, c3, c4] t (0, 0)) := by
  have hlt := lt_of_blk h
  have h' : w.heap[a] = .cells #[c0, c1, c2, c3, c4] t (0, 0) := by simpa [Array.getElem?_eq_getElem hlt] using h
  show (w.heap.modify a _)[a]? = _
  rw [Array.getElem?_eq_getElem (by simpa using hlt), Array.getElem_modify_self, h']
  rfl

theorem chg5 (w : World) (a : Nat) (c0 c1 c2 c3 c4 : Value) : Chg (fun k => k = a) w (((((w.setCell ⟨a, 0, none⟩ c0).setCell ⟨a, 1, none⟩ c1).setCell ⟨a, 2, none⟩ c2).setCell ⟨a, 3, none⟩ c3).setCell ⟨a, 4, none⟩ c4) :=
  (((((Chg.refl (fun k => k = a) w).setCell (p := ⟨a, 0, none⟩) (.inl rfl) c0).setCell (p := ⟨a, 1, none⟩) (.inl rfl) c1).setCell (p := ⟨a, 2, none⟩) (.inl rfl) c2).setCell (p := ⟨a, 3, none⟩) (.inl rfl) c3).setCell (p := ⟨a, 4, none⟩) (.inl rfl) c4

theorem chg55 (w : World) (a b : Nat) (c0 c1 c2 c3 c4 : Value) : Chg (fun k => k = a ∨ k = b) w ((((((((((w.setCell ⟨a, 0, none⟩ c0).setCell ⟨a, 1, none⟩ c1).setCell ⟨a, 2, none⟩ c2).setCell ⟨a, 3, none⟩ c3).setCell ⟨a, 4, none⟩ c4).setCell ⟨b, 0, none⟩ c0).setCell ⟨b, 1, none⟩ c1).setCell ⟨b, 2, none⟩ c2).setCell ⟨b, 3, none⟩ c3).setCell ⟨b, 4, none⟩ c4) :=
  ((chg5 w a c0 c1 c2 c3 c4).mono (fun _ e => .inl (.inl e))).trans (chg5 _ b c0 c1 c2 c3 c4) (fun _ e => .inl (.inr e))

/-- What one round of 'grown' leaves. -/
structure Gr (B A : Nat) (v : Value) (n : Nat) (ys : List Int) (mark m : Int) (want : ByteArray) (kept : Bool) (w : World) (k : Nat) (vv : Value) (wr : World) : Prop where
  box : wr.heap[A]? = some (.cells #[vv, .int .i64 m, .int .u8 mark, .string want, .bool kept] 49 (0, 0))
  res : wr.heap[A + 1]? = some (.cells #[.slice none 0 0, .int .i64 0, .int .u8 0, .string ⟨#[]⟩, .bool false] 49 (0, 0))
  row : wr.ownsRow B 5 1 vv (n + k) (cells8 (ys ++ List.replicate k mark))
  chg : Chg (fun b => v.ownBlock = some b ∨ w.heap.size ≤ b) w wr
  mov : Moved w v vv

theorem cells8_append (xs ys : List Int) : cells8 (xs ++ ys) = cells8 xs ++ cells8 ys := by simp [cells8]

theorem Gr.mid {B A : Nat} {v : Value} {n : Nat} {ys : List Int} {mark m : Int} {want : ByteArray} {kept : Bool} {w : World} {k : Nat} {vv : Value} {wr w1 : World} {o : Obj} (h : Gr B A v n ys mark m want kept w k vv wr)
    (hg : (wr.alloc o).grownBy w1 vv.ownBlock) : w1.heap[A]? = some (.cells #[vv, .int .i64 m, .int .u8 mark, .string want, .bool kept] 49 (0, 0)) := by
  have hw1 : Chg (fun b => vv.ownBlock = some b) wr w1 := ((Chg.refl _ wr).alloc o).grown hg (fun k e => .inl e)
  exact (hw1.block A (lt_of_blk h.box) (row_ne h.row h.box (by decide))).trans h.box

theorem Gr.step {B A : Nat} {v : Value} {n : Nat} {ys : List Int} {mark m : Int} {want : ByteArray} {kept : Bool} {w : World} {k : Nat} {vv v1 : Value} {wr w1 : World} {o : Obj} (h : Gr B A v n ys mark m want kept w k vv wr) (hA : A = w.heap.size)
    (hown : w1.ownsRow B 5 1 v1 (n + k + 1) (cells8 (ys ++ List.replicate k mark) ++ [.int .u8 mark])) (hg : (wr.alloc o).grownBy w1 vv.ownBlock) (hm : Moved (wr.alloc o) vv v1) :
    Gr B A v n ys mark m want kept w (k + 1) v1 (w1.setCell ⟨A, 0, none⟩ v1) := by
  have hw1 : Chg (fun b => vv.ownBlock = some b) wr w1 := ((Chg.refl _ wr).alloc o).grown hg (fun k e => .inl e)
  have hb1 : w1.heap[A]? = some (.cells #[vv, .int .i64 m, .int .u8 mark, .string want, .bool kept] 49 (0, 0)) := (hw1.block A (lt_of_blk h.box) (row_ne h.row h.box (by decide))).trans h.box
  have hr1 : w1.heap[A + 1]? = some (.cells #[.slice none 0 0, .int .i64 0, .int .u8 0, .string ⟨#[]⟩, .bool false] 49 (0, 0)) := (hw1.block (A + 1) (lt_of_blk h.res) (row_ne h.row h.res (by decide))).trans h.res
  have hne : v1.ownBlock ≠ some A := row_ne hown hb1 (by decide)
  refine ⟨blk5_set0 hb1, ?_, ?_, ?_, ?_⟩
  · rw [Below.heap_setCell _ _ _ _ (by simp)]; exact hr1
  · have := ownsRow_setCell_other hown (a := ⟨A, 0, none⟩) hne v1
    rw [List.replicate_succ', ← List.append_assoc, cells8_append, ← Nat.add_assoc]
    exact this
  · exact (h.chg.trans hw1 (fun b e => by rcases h.mov b e with e | e; exact .inl (.inl e); exact .inr e)).setCell (p := ⟨A, 0, none⟩) (.inl (.inr (by rw [hA]; exact Nat.le_refl _))) v1
  · refine h.mov.trans (Nat.le_trans h.chg.size (by simp)) hm

set_option maxRecDepth 100000 in
set_option maxHeartbeats 2000000 in
theorem grown_any (B : Nat) (v : Value) (mark : Int) (ys : List Int) (want : ByteArray) (kept : Bool) (n : Nat) (m : Int) (w : World) (hn : ys.length = n) (hl : n ≤ 140737488351240) (h : w.ownsRow B 5 1 v n (cells8 ys)) (hB : B ≤ w.heap.size) :
    Calls Try.prog 26 #[.agg #[v, .int .i64 m, .int .u8 mark, .string want, .bool kept]] w fun e w' => ∃ v', e = .returned (.agg #[v', .int .i64 m, .int .u8 mark, .string want, .bool kept]) ∧ Grows B v v' n 3 ys mark w w' := by
  obtain ⟨i0, hi, hz0, hz1, hz2⟩ := info_parts info5
  go_enter Try.func26, Try.ntmps26
  go_wp2_with fail
  go_loopw [3] (fun i wr => ∃ k : Nat, k ≤ 3 ∧ i = .int .i64 k ∧ ∃ vv, Gr B w.heap.size v n ys mark m want kept w k vv wr) (fun i _ => 3 - (intOf i).toNat)
  case atStart =>
    refine ⟨0, by omega, rfl, v, ?_, ?_, ?_, ?_, Moved.refl _ _⟩
    · rw [Below.heap_alloc _ _ _ (by simp)]; exact heap_alloc_new w _
    · simpa using heap_alloc_new (w.alloc (.cells #[v, .int .i64 m, .int .u8 mark, .string want, .bool kept] 49)) (.cells #[.slice none 0 0, .int .i64 0, .int .u8 0, .string ⟨#[]⟩, .bool false] 49)
    · simpa using (h.alloc _).alloc _
    · exact ((Chg.refl _ w).alloc _).alloc _
  case round =>
    obtain ⟨k, hk, rfl, vv, hgr⟩ := hrel
    by_cases hlt : k < 3
    · obtain ⟨b0, _, b2, _, _⟩ := blk5_cell hgr.box
      obtain ⟨va, vc, rfl, _⟩ := own_row8 hgr.row
      have hBr : B ≤ wr.heap.size := Nat.le_trans hB hgr.chg.size
      go_wp2_with (at_builtin; refine wpList_append_moved rfl (.tmp 9) (.tmp 12) 22 rfl B 5 i0 (.int .u8 0) 1 1 Try.underlying22 hi hz0 hz1 hz2 rfl (by decide) _ (n + k) (cells8 (ys ++ List.replicate k mark)) rfl (some ⟨wr.heap.size, 0, none⟩) 1 1 rfl [.int .u8 mark] (hgr.row.alloc _) (row8_one wr mark 5).src (oneCells [mark]) (by unfold maxLen; omega) (by omega) (by simp; omega) ?_)
      intro v1 w1 hown hg hm
      have R := hgr.step rfl hown hg hm
      have hmid := hgr.mid hg
      have k0 := (blk5_cell hmid).1
      have f0 := blk5_free hmid 0
      obtain ⟨va1, vc1, rfl⟩ : ∃ va1 vc1, v1 = .slice va1 (n + k + 1) vc1 := by
        rcases own_shape hown with ⟨rfl, e⟩ | ⟨g, cap, rfl⟩
        · omega
        · exact ⟨_, cap, rfl⟩
      clear hown hg hm hmid hgr b0 b2
      go_wp2
      go_roundw
      case rel => exact ⟨k + 1, by omega, by go_num, _, R⟩
      case measure => simp [intOf]; omega
    · obtain rfl : k = 3 := by omega
      obtain ⟨va, vc, rfl, _⟩ := own_row8 hgr.row
      obtain ⟨b0, b1, b2, b3, b4⟩ := blk5_cell hgr.box
      obtain ⟨r0, r1, r2, r3, r4⟩ := blk5_cell hgr.res
      have f0 := blk5_free hgr.res 0
      have f1 := blk5_free hgr.res 1
      have f2 := blk5_free hgr.res 2
      have f3 := blk5_free hgr.res 3
      have f4 := blk5_free hgr.res 4
      have hrow := hgr.row
      have hchg := hgr.chg
      have hmov := hgr.mov
      have hne := row_ne hrow hgr.res (by decide)
      clear hgr
      go_wp2
      refine bodyPost_ret (v := .agg #[.slice va (n + 3) vc, .int .i64 m, .int .u8 mark, .string want, .bool kept]) (by simp [results, Try.results26, go_sem, r0, r1, r2, r3, r4]) rfl ?_
      have hc5 := chg5 wr (w.heap.size + 1) (.slice va (n + 3) vc) (.int .i64 m) (.int .u8 mark) (.string want) (.bool kept)
      refine ⟨_, rfl, ownsRow_keep hrow hc5 (fun g e f => hne (by rw [e, f])), ?_, hmov⟩
      exact (hchg.trans hc5 (fun i e => .inl (.inr (by omega)))).mono (fun i e => by rcases e with e | e; exact .inl e; exact .inr e)

/-- The mark of the list number k. -/
def holdMark (k : Nat) : Int := ((k : Int) * 2 + 1) % 256

set_option maxRecDepth 100000 in
set_option maxHeartbeats 2000000 in
theorem hold_even (B : Nat) (v : Value) (xs : List Int) (n k : Nat) (w : World) (h : w.ownsRow B 5 1 v n (cells8 xs)) (hk : k ≤ 1000000000) (hev : k % 2 = 0) :
    Calls Try.prog 18 #[v, .int .i64 k] w fun e w' => e = .returned (.agg #[v, .int .i64 n, .int .u8 (holdMark k), .string (strOfNums xs), .bool true]) ∧ Chg (fun _ => False) w w' := by
  obtain ⟨va, vc, rfl, hr⟩ := own_row8 h
  have hcv := fun o => conv8_here (row8_alloc hr o)
  have hev1 : ((k : Int) % 2 == 0) = true := beq_iff_eq.2 (by omega)
  go_enter Try.func18, Try.ntmps18
  go_wp2
  exact bodyPost_ret (v := .agg #[.slice va n vc, .int .i64 n, .int .u8 (holdMark k), .string (strOfNums xs), .bool true]) (by simp [results, Try.results18, go_sem, holdMark]) rfl ⟨rfl, ((Chg.refl _ w).alloc _).alloc _⟩

set_option maxRecDepth 100000 in
set_option maxHeartbeats 2000000 in
theorem hold_odd (B : Nat) (v : Value) (xs : List Int) (n k : Nat) (w : World) (hn : n ≤ 140737488351240) (hxl : xs.length = n) (h : w.ownsRow B 5 1 v n (cells8 xs)) (hB : B ≤ w.heap.size) (hk : k ≤ 1000000000) (hev : k % 2 = 1) :
    Calls Try.prog 18 #[v, .int .i64 k] w fun e w' => ∃ v', e = .returned (.agg #[v', .int .i64 n, .int .u8 (holdMark k), .string (strOfNums xs), .bool false]) ∧ w'.ownsRow B 5 1 v' (n + 3) (cells8 (List.replicate (n + 3) (holdMark k))) ∧ Chg (fun b => v.ownBlock = some b) w w' ∧ Moved w v v' := by
  obtain ⟨va, vc, rfl, hr⟩ := own_row8 h
  have hcv := fun o => conv8_here (row8_alloc hr o)
  have hev1 : ((k : Int) % 2 == 0) = false := beq_eq_false_iff_ne.2 (by omega)
  have HM : Hid (((k : Int) * 2 + 1) % 256 = holdMark k) := rfl
  have hlt := fun g e => (h.lt g e).2
  go_enter Try.func18, Try.ntmps18
  go_wp2_with fail
  clear hcv hr
  have hw2 := ((h.alloc (.cells #[.slice none 0 0, .int .i64 0, .int .u8 0, .string ⟨#[]⟩, .bool false] 49)).alloc (.cells #[.slice va n vc, .int .i64 n, .int .u8 (((k : Int) * 2 + 1) % 256), .string (strOfNums xs), .bool false] 49))
  have hc2 : Chg (fun b => (Value.slice va n vc).ownBlock = some b) w ((w.alloc (.cells #[.slice none 0 0, .int .i64 0, .int .u8 0, .string ⟨#[]⟩, .bool false] 49)).alloc (.cells #[.slice va n vc, .int .i64 n, .int .u8 (((k : Int) * 2 + 1) % 256), .string (strOfNums xs), .bool false] 49)) := ((Chg.refl _ w).alloc _).alloc _
  have hr2 : ((w.alloc (.cells #[.slice none 0 0, .int .i64 0, .int .u8 0, .string ⟨#[]⟩, .bool false] 49)).alloc (.cells #[.slice va n vc, .int .i64 n, .int .u8 (((k : Int) * 2 + 1) % 256), .string (strOfNums xs), .bool false] 49)).heap[w.heap.size]? = some (.cells #[.slice none 0 0, .int .i64 0, .int .u8 0, .string ⟨#[]⟩, .bool false] 49 (0, 0)) := by
    rw [Below.heap_alloc _ _ _ (by simp)]; exact heap_alloc_new w _
  have hb2 : ((w.alloc (.cells #[.slice none 0 0, .int .i64 0, .int .u8 0, .string ⟨#[]⟩, .bool false] 49)).alloc (.cells #[.slice va n vc, .int .i64 n, .int .u8 (((k : Int) * 2 + 1) % 256), .string (strOfNums xs), .bool false] 49)).heap[w.heap.size + 1]? = some (.cells #[.slice va n vc, .int .i64 n, .int .u8 (((k : Int) * 2 + 1) % 256), .string (strOfNums xs), .bool false] 49 (0, 0)) := by
    have := heap_alloc_new (w.alloc (.cells #[.slice none 0 0, .int .i64 0, .int .u8 0, .string ⟨#[]⟩, .bool false] 49)) (.cells #[.slice va n vc, .int .i64 n, .int .u8 (((k : Int) * 2 + 1) % 256), .string (strOfNums xs), .bool false] 49)
    rw [show (w.alloc (.cells #[.slice none 0 0, .int .i64 0, .int .u8 0, .string ⟨#[]⟩, .bool false] 49)).heap.size = w.heap.size + 1 by simp] at this
    exact this
  refine (written_any B _ _ xs _ _ n _ hxl (by omega) hw2).mono ?_
  rintro e w3 ⟨rfl, ho3, hc3⟩
  have hr3 := blk_keep hr2 hc3 (row_ne hw2 hr2 (by decide))
  have hb3 := blk_keep hb2 hc3 (row_ne hw2 hb2 (by decide))
  have hC3 := hc2.trans hc3 (fun b e => .inl e)
  clear hw2 hc2 hr2 hb2 hc3
  obtain ⟨c0, c1, c2, c3, c4⟩ := blk5_cell hb3
  have hs3 : B ≤ w3.heap.size := Nat.le_trans hB hC3.size
  go_wp2_with fail
  refine (grown_any B _ _ (List.replicate n (((k : Int) * 2 + 1) % 256)) _ _ n _ _ (by simp) hn ho3 hs3).mono ?_
  rintro e w4 ⟨v4, rfl, ho4, hc4, hm4⟩
  have hr4 := blk_keep hr3 hc4 (row_ne ho3 hr3 (by decide))
  have hb4 := blk_keep hb3 hc4 (row_ne ho3 hb3 (by decide))
  have hC4 := hC3.trans hc4 (fun b e => .inl e)
  have hM4 : Moved w (.slice va n vc) v4 := (Moved.refl w _).trans hC3.size hm4
  clear hr3 hb3 hc4 hm4 ho3 hC3 c0 c1 c2 c3 c4
  obtain ⟨va4, vc4, rfl⟩ : ∃ va4 vc4, v4 = .slice va4 (n + 3) vc4 := by
    rcases own_shape ho4 with ⟨_, e⟩ | ⟨g, cap, rfl⟩
    · omega
    · exact ⟨_, cap, rfl⟩
  have hnr := row_ne ho4 hr4 (by decide)
  have hnb := row_ne ho4 hb4 (by decide)
  rw [List.replicate_append_replicate] at ho4
  obtain ⟨c0, c1, c2, c3, c4⟩ := blk5_cell hb4
  obtain ⟨r0, r1, r2, r3, r4⟩ := blk5_cell hr4
  have fb := blk5_free hb4
  have fr := blk5_free hr4
  clear hr4 hb4
  have hq := chg55 w4 (w.heap.size + 1) w.heap.size (.slice va4 (n + 3) vc4) (.int .i64 n) (.int .u8 (((k : Int) * 2 + 1) % 256)) (.string (strOfNums xs)) (.bool false)
  go_wp2
  refine bodyPost_ret (v := .agg #[.slice va4 (n + 3) vc4, .int .i64 n, .int .u8 (holdMark k), .string (strOfNums xs), .bool false]) (by simp [results, Try.results18, go_sem, r0, r1, r2, r3, r4, holdMark]) rfl ?_
  refine ⟨_, rfl, ownsRow_keep ho4 hq (fun g e f => ?_), ?_, hM4⟩
  · rcases f with f | f
    · exact hnb (by rw [e, f])
    · exact hnr (by rw [e, f])
  · exact hC4.trans hq (fun b f => .inr (by rcases f with f | f <;> omega))

end Go.Proofs.Ytefplppgkoanbaa.Bk
