/- The contracts of wire's writer and reader, as far as heads of chunks ask for them; of no statement by themselves. -/
import Derived.Test.YtikokgngkagieaaDoorBase
import Derived.Test.YtikokgngkagieaaDoorMem
import Derived.Laws.BitsAllLaws
import Derived.Laws.CopyOwn
import Derived.BigQuiet
import Derived.WalkSpells
namespace Go.Proofs.YtikokgngkagieaaDoor.Wire
open Go.RowKit
set_option linter.unusedVariables false
set_option linter.unusedSimpArgs false
/-- A writer at block a: two cells, how many bytes there are and the slice that owns them. -/
structure Wr (B : Nat) (w : World) (a : Nat) (v : Value) (bs : List Int) : Prop where
  lo : B ≤ a
  blk : w.heap[a]? = some (.cells #[.int .i64 bs.length, v] 79 (0, 0))
  row : w.ownsRow B 5 1 v bs.length (bs.map (Value.int .u8))
theorem Wr.ne {B : Nat} {w : World} {a : Nat} {v : Value} {bs : List Int} (h : Wr B w a v bs) : v.ownBlock ≠ some a := row_ne h.row h.blk (by decide)
theorem Wr.lt {B : Nat} {w : World} {a : Nat} {v : Value} {bs : List Int} (h : Wr B w a v bs) : a < w.heap.size := lt_of_blk h.blk
theorem Wr.keep {B : Nat} {w w' : World} {S : Nat → Prop} {a : Nat} {v : Value} {bs : List Int} (h : Wr B w a v bs) (hc : Chg S w w') (ha : ¬ S a) (hS : ∀ g, v.ownBlock = some g → ¬ S g) : Wr B w' a v bs :=
  ⟨h.lo, (hc.block a h.lt ha).trans h.blk, ownsRow_keep h.row hc hS⟩
theorem Wr.foot {B : Nat} {w : World} {a : Nat} {v : Value} {bs : List Int} (h : Wr B w a v bs) : ∀ k, Foot a v k → B ≤ k ∧ k < w.heap.size := by
  intro k hk
  rcases hk with e | e
  · subst e; exact ⟨h.lo, h.lt⟩
  · exact h.row.lt k e
theorem info5 : (Tryd.prog.info? 5).map (fun i => (i.zero, i.size, i.bytes)) = some (some (.int .u8 0), 1, 1) := by kernel_rfl
set_option maxHeartbeats 400000 in
theorem newWriter_any (w : World) : Calls Tryd.prog 24 #[] w fun e w' => e = .returned (.pointer (some ⟨w.heap.size, 0, none⟩)) ∧ w' = w.alloc (.cells #[.int .i64 0, .slice none 0 0] 79) := by
  go_enter Tryd.func24, Tryd.ntmps24
  go_wp2
  go_ret
  exact ⟨rfl, rfl⟩
set_option maxHeartbeats 400000 in
theorem pass_any (a : Nat) (g n : Int) (w : World) (hc : w.cell? ⟨a, 0, none⟩ = some (.int .i64 g)) (hf : w.frozen? ⟨a, 0, none⟩ = false) (h0 : 0 ≤ g) (h1 : 0 ≤ n) (h2 : g + n ≤ 9223372036854775807) :
    Calls Tryd.prog 36 #[.pointer (some ⟨a, 0, none⟩), .int .i64 n] w fun e w' => e = .returned (.tuple #[]) ∧ w' = w.setCell ⟨a, 0, none⟩ (.int .i64 (g + n)) := by
  go_enter Tryd.func36, Tryd.ntmps36
  go_wp2
  go_end0
  exact ⟨rfl, rfl⟩
theorem oneCells (l : List Int) : ∀ u ∈ l.map (Value.int .u8), u.oneCell' = true := by
  intro u hu
  obtain ⟨x, _, rfl⟩ := List.mem_map.1 hu
  rfl
/-- What is left of the writer behind an append of 'news', the counter raised. -/
theorem wr_put {B : Nat} {w w1 : World} {a : Nat} {v v' : Value} {bs news : List Int} (h : Wr B w a v bs) (hown : w1.ownsRow B 5 1 v' (bs.length + news.length) (bs.map (Value.int .u8) ++ news.map (Value.int .u8))) (hg : w.grownBy w1 v.ownBlock) :
    Wr B ((w1.setCell ⟨a, 1, none⟩ v').setCell ⟨a, 0, none⟩ (.int .i64 ((bs.length : Int) + (news.length : Int)))) a v' (bs ++ news) := by
  have hb : w1.heap[a]? = some (.cells #[.int .i64 bs.length, v] 79 (0, 0)) := (hg.block a h.lt (fun e => h.ne e.symm)).trans h.blk
  have hne : v'.ownBlock ≠ some a := row_ne hown hb (by decide)
  refine ⟨h.lo, ?_, ?_⟩
  · rw [blk_set0 (blk_set1 hb)]; simp
  · have := ownsRow_setCell_other (ownsRow_setCell_other hown (a := ⟨a, 1, none⟩) hne v') (a := ⟨a, 0, none⟩) hne (.int .i64 ((bs.length : Int) + (news.length : Int)))
    simpa using this
set_option maxHeartbeats 800000 in
theorem put_any (B a : Nat) (v : Value) (bs news : List Int) (ad : Option Addr) (c : Nat) (w : World) (h : Wr B w a v bs) (hB : B ≤ w.heap.size) (hsrc : Row8 w ad news.length c news) (hlen : bs.length + news.length ≤ 140737488355328) :
    Calls Tryd.prog 25 #[.pointer (some ⟨a, 0, none⟩), .slice ad news.length c] w fun e w' => e = .returned (.tuple #[]) ∧ ∃ v', Wr B w' a v' (bs ++ news) ∧ Chg (Foot a v) w w' ∧ Moved w v v' := by
  obtain ⟨i0, hi, hz0, hz1, hz2⟩ := info_parts info5
  obtain ⟨va, vc, rfl, _⟩ := own_row8 h.row
  have hc0 := cell0 h.blk
  have hc1 := cell1 h.blk
  have hf0 := free0 h.blk
  have hf1 := free1 h.blk
  go_enter Tryd.func25, Tryd.ntmps25
  go_wp2_with (at_builtin; refine wpList_append_moved rfl (.tmp 8) (.tmp 9) 22 rfl B 5 i0 (.int .u8 0) 1 1 Tryd.underlying22 hi hz0 hz1 hz2 rfl (by decide) _ bs.length (bs.map (Value.int .u8)) rfl ad news.length c rfl (news.map (Value.int .u8)) h.row hsrc.src (oneCells _) (by unfold maxLen; omega) (by omega) hB ?_)
  intro v' w1 hown hg hm
  have hb1 : w1.heap[a]? = some (.cells #[.int .i64 bs.length, .slice va bs.length vc] 79 (0, 0)) := (hg.block a h.lt (fun e => h.ne e.symm)).trans h.blk
  have R := wr_put h hown hg
  have C : Chg (Foot a (.slice va bs.length vc)) w ((w1.setCell ⟨a, 1, none⟩ v').setCell ⟨a, 0, none⟩ (.int .i64 ((bs.length : Int) + (news.length : Int)))) :=
    (((Chg.refl _ w).grown hg (fun k e => .inl (.inr e))).setCell (p := ⟨a, 1, none⟩) (.inl (.inl rfl)) _).setCell (p := ⟨a, 0, none⟩) (.inl (.inl rfl)) _
  have HF : Hid (Wr B ((w1.setCell ⟨a, 1, none⟩ v').setCell ⟨a, 0, none⟩ (.int .i64 ((bs.length : Int) + (news.length : Int)))) a v' (bs ++ news) ∧ Chg (Foot a (.slice va bs.length vc)) w ((w1.setCell ⟨a, 1, none⟩ v').setCell ⟨a, 0, none⟩ (.int .i64 ((bs.length : Int) + (news.length : Int)))) ∧ Moved w (.slice va bs.length vc) v') := ⟨R, C, hm⟩
  obtain ⟨va', vc', rfl⟩ : ∃ va' vc', v' = .slice va' (bs.length + news.length) vc' := by
    rcases own_shape hown with ⟨rfl, e⟩ | ⟨g, cap, rfl⟩
    · exact ⟨none, 0, by rw [e]⟩
    · exact ⟨_, cap, rfl⟩
  have k0 := cell0 hb1
  have k1 := cell1 hb1
  have e0 := free0 hb1
  have e1 := free1 hb1
  clear R C hm hown hg hb1 hc0 hc1 hf0 hf1 hsrc h
  have q0 : ∀ u, (w1.setCell ⟨a, 1, none⟩ u).cell? ⟨a, 0, none⟩ = some (.int .i64 bs.length) := fun u => (World.cell?_setCell_other _ _ _ _ (by simp)).trans k0
  have q1 : ∀ u, (w1.setCell ⟨a, 1, none⟩ u).frozen? ⟨a, 0, none⟩ = false := fun u => by simp [e0]
  go_wp2_with fail
  refine (pass_any a bs.length news.length _ (q0 _) (q1 _) (by omega) (by omega) (by omega)).mono ?_
  rintro e w2 ⟨rfl, rfl⟩
  go_wp2
  go_end0
  exact ⟨rfl, _, HF.out⟩
theorem put_m (B a : Nat) (v : Value) (bs news : List Int) (ad : Option Addr) (m c : Nat) (w : World) (h : Wr B w a v bs) (hB : B ≤ w.heap.size) (hsrc : Row8 w ad m c news) (hlen : bs.length + m ≤ 140737488355328) :
    Calls Tryd.prog 25 #[.pointer (some ⟨a, 0, none⟩), .slice ad m c] w fun e w' => e = .returned (.tuple #[]) ∧ ∃ v', Wr B w' a v' (bs ++ news) ∧ Chg (Foot a v) w w' ∧ Moved w v v' := by
  obtain rfl := hsrc.1
  exact put_any B a v bs news ad c w h hB hsrc hlen
set_option maxHeartbeats 400000 in
theorem isWidth_yes (n : Int) (w : World) (h1 : 1 ≤ n) (h2 : n ≤ 8) : Calls Tryd.prog 52 #[.int .i64 n] w fun e w' => e = .returned (.bool true) ∧ w = w' := by
  go_enter Tryd.func52, Tryd.ntmps52
  go_wp2
  go_ret
  exact ⟨rfl, rfl⟩
/-- The byte i of a number, the lowest first. -/
def byteAt (v : Int) (i : Nat) : Int := v / 2 ^ (8 * i) % 256
theorem row8_one (w : World) (x : Int) (t : TypeId) : Row8 (w.alloc (.cells #[.int .u8 x] t)) (some ⟨w.heap.size, 0, none⟩) 1 1 [x] := by
  refine ⟨rfl, .inr ⟨_, rfl, ?_⟩⟩
  intro j u hu
  match j, hu with
  | 0, hu => simp at hu; subst hu; simp [Addr.add]
theorem chg_one (S : Nat → Prop) (w : World) (o : Obj) : Chg S w (w.alloc o) := (Chg.refl S w).alloc o
/-- A writer is as it was behind a new block. -/
theorem Wr.alloc {B : Nat} {w : World} {a : Nat} {v : Value} {bs : List Int} (h : Wr B w a v bs) (o : Obj) : Wr B (w.alloc o) a v bs :=
  h.keep (chg_one (fun _ => False) w o) (fun f => f) (fun _ _ f => f)
/-- One byte more: what the call of Put leaves, told of the world ahead of the new block. -/
theorem step_put {a : Nat} {v vv v2 : Value} {w wr w2 : World} {o : Obj} (hc : Chg (Foot a v) w wr) (hm : Moved w v vv) (hc2 : Chg (Foot a vv) (wr.alloc o) w2) (hm2 : Moved (wr.alloc o) vv v2) :
    Chg (Foot a v) w w2 ∧ Moved w v v2 :=
  ⟨(hc.alloc o).trans hc2 (hm.foot a), hm.trans (Nat.le_trans hc.size (by simp)) hm2⟩
/-- The k highest of the n lowest bytes, the highest first. -/
def highTo (v : Int) (n k : Nat) : List Int := (List.range k).map fun i => byteAt v (n - 1 - i)
/-- The n lowest bytes, the highest first. -/
def highBytes (v : Int) (n : Nat) : List Int := highTo v n n
theorem highTo_length (v : Int) (n k : Nat) : (highTo v n k).length = k := by simp [highTo]
theorem highTo_succ (v : Int) (n k : Nat) : highTo v n (k + 1) = highTo v n k ++ [byteAt v (n - 1 - k)] := by simp [highTo, List.range_succ]
theorem size5 : (Tryd.prog.info? 5).map (·.size) = some 1 := by kernel_rfl
/-- Bytes as cells. -/
def cells8 (xs : List Int) : List Value := xs.map (Value.int .u8)
theorem splice_all (n : Nat) (z : Value) (cs : List Value) (h : cs.length = n) : splice (List.replicate n z) 0 cs = cs := by
  simp [splice, h]
set_option maxHeartbeats 800000 in
theorem fresh_any (ad : Option Addr) (m c : Nat) (xs : List Int) (w : World) (h : Row8 w ad m c xs) (hm : m ≤ 140737488355328) :
    Calls Tryd.prog 37 #[.slice ad m c] w fun e w' => e = .returned (.slice (some ⟨w.heap.size, 0, none⟩) m m) ∧ w'.heap[w.heap.size]? = some (.cells (cells8 xs).toArray 5 (0, 0)) ∧ Chg (fun _ => False) w w' := by
  obtain ⟨i0, hi, hz0, hz1, hz2⟩ := info_parts info5
  obtain ⟨cs, hcs⟩ : ∃ cs, cs = cells8 xs := ⟨_, rfl⟩
  have hl : cs.length = m := by rw [hcs]; simp [cells8, h.1]
  have h1 : ∀ u ∈ cs, u.oneCell' = true := by rw [hcs]; exact oneCells xs
  have hsrc : ∀ w2, Chg (fun _ => False) w w2 → 0 < cs.length → ∃ x, ad = some x ∧ ∀ j v, cs[j]? = some v → w2.cell? (x.add j) = some v := by
    intro w2 hc hp
    have hk := row8_keep h hc (fun _ _ f => f)
    rcases hk.2 with ⟨_, e, _⟩ | ⟨x, e, hx⟩
    · omega
    · exact ⟨x, e, by rw [hcs]; exact hx⟩
  have HC : Hid (cs = cells8 xs) := hcs
  clear h hcs
  go_enter Tryd.func37, Tryd.ntmps37
  go_wp2_with (at_make; refine wpList_make_full _ rfl (.tmp 5) (.tmp 5) 22 rfl w.heap.size 5 i0 (.int .u8 0) 1 Tryd.underlying22 hi hz0 hz1 .i64 .i64 _ _ m rfl rfl rfl rfl (by rw [hz2]; omega) (by unfold maxLen; omega) (Nat.le_refl _) ?_)
  intro w1 hown hg
  have hc : Chg (fun _ => False) w w1 := (Chg.refl _ w).grown hg (fun k e => by cases e)
  have hrow : w1.heap[w.heap.size]? = some (.cells (List.replicate m (Value.int .u8 0)).toArray 5 (0, 0)) := by
    rcases hown.2 with ⟨e, _⟩ | ⟨g, cap, cur, e, _, hh, _, _, hs, ht⟩
    · cases e
    · simp only [Value.slice.injEq, Option.some.injEq, Addr.mk.injEq] at e
      obtain ⟨⟨rfl, _⟩, _, rfl⟩ := e
      rw [toList_madeCells_one, List.take_of_length_le (by simp; omega)] at ht
      rw [hh]
      rw [← ht]
  have HR : Hid (w1.heap[w.heap.size]? = some (.cells (List.replicate m (Value.int .u8 0)).toArray 5 (0, 0))) := hrow
  have HS := hsrc w1 hc
  have hb : Below w.heap.size w w1 := hc.below (Nat.le_refl _) (fun _ f => f.elim)
  clear hown hg hrow hsrc hc
  go_wp2_with (refine wpList_copy_splice rfl (.tmp 7) (.tmp 8) 22 22 rfl 5 Tryd.underlying22 size5 _ _ _ _ _ _ rfl rfl w.heap.size 0 _ 5 HR.out cs (by simp [hl]) (fun hp => ⟨rfl, HS hp⟩) (by simp [hl]) h1 w.heap.size w hb (Nat.le_refl _) ?_)
  intro w2 h2 hb2
  have R : w2.heap[w.heap.size]? = some (.cells (cells8 xs).toArray 5 (0, 0)) := by
    have := h2.out
    rw [splice_all m _ cs hl] at this
    rw [this, HC.out]
  have C : Chg (fun _ => False) w w2 := (Chg.of_below hb2).mono (fun k f => .inr f)
  have HF : Hid (w2.heap[w.heap.size]? = some (.cells (cells8 xs).toArray 5 (0, 0))) := R
  clear R h2 HS HR hb hb2 HC
  go_wp2
  go_ret
  exact ⟨rfl, HF.out, C⟩
/-- A new list of bytes: the block and that it is whole. -/
theorem row8_blk {w : World} {g : Nat} {xs : List Int} (h : w.heap[g]? = some (.cells (cells8 xs).toArray 5 (0, 0))) (m : Nat) (hm : xs.length = m) (c : Nat) : Row8 w (some ⟨g, 0, none⟩) m c xs := by
  refine ⟨hm, .inr ⟨_, rfl, fun j u hu => ?_⟩⟩
  have hadd : (⟨g, 0, none⟩ : Addr).add j = ⟨g, j, none⟩ := by unfold Addr.add; split <;> simp_all
  rw [hadd, cell_of_row w g j _ 5 (0, 0) h]
  simpa [cells8] using hu
set_option maxHeartbeats 800000 in
theorem bytes_any (B a : Nat) (v : Value) (bs : List Int) (w : World) (h : Wr B w a v bs) (hm : bs.length ≤ 140737488355328) :
    Calls Tryd.prog 26 #[.pointer (some ⟨a, 0, none⟩)] w fun e w' => e = .returned (.slice (some ⟨w.heap.size, 0, none⟩) bs.length bs.length) ∧ w'.heap[w.heap.size]? = some (.cells (cells8 bs).toArray 5 (0, 0)) ∧ Chg (fun _ => False) w w' := by
  obtain ⟨va, vc, rfl, hr⟩ := own_row8 h.row
  have hc1 := cell1 h.blk
  clear h
  go_enter Tryd.func26, Tryd.ntmps26
  go_wp2_with fail
  refine (fresh_any _ _ _ bs _ hr hm).mono ?_
  rintro e w2 ⟨rfl, h2, hc⟩
  have HF : Hid (w2.heap[w.heap.size]? = some (.cells (cells8 bs).toArray 5 (0, 0))) := h2
  clear h2 hr
  go_wp2
  go_ret
  exact ⟨rfl, HF.out, hc⟩
/-- A reader at block a: how many bytes are read, and the list, which lies whole in block g. -/
structure Rd (B : Nat) (w : World) (a g : Nat) (xs : List Int) (off : Nat) : Prop where
  loA : B ≤ a
  loG : B ≤ g
  blk : w.heap[a]? = some (.cells #[.int .i64 off, .slice (some ⟨g, 0, none⟩) xs.length xs.length] 92 (0, 0))
  row : w.heap[g]? = some (.cells (cells8 xs).toArray 5 (0, 0))
  le : off ≤ xs.length
  len : xs.length ≤ 140737488355328
theorem Rd.lt {B : Nat} {w : World} {a g off : Nat} {xs : List Int} (h : Rd B w a g xs off) : a < w.heap.size ∧ g < w.heap.size := ⟨lt_of_blk h.blk, lt_of_blk h.row⟩
theorem Rd.ne {B : Nat} {w : World} {a g off : Nat} {xs : List Int} (h : Rd B w a g xs off) : g ≠ a := by
  intro e
  have h1 := h.blk
  have h2 := h.row
  rw [e, h1] at h2
  simp at h2
theorem Rd.keep {B : Nat} {w w' : World} {a g off : Nat} {xs : List Int} {S : Nat → Prop} (h : Rd B w a g xs off) (hc : Chg S w w') (ha : ¬ S a) (hg : ¬ S g) : Rd B w' a g xs off :=
  ⟨h.loA, h.loG, (hc.block a h.lt.1 ha).trans h.blk, (hc.block g h.lt.2 hg).trans h.row, h.le, h.len⟩
theorem newRd {B : Nat} {w w2 : World} {m : Nat} {xs : List Int} (h2 : w2.heap[w.heap.size]? = some (.cells (cells8 xs).toArray 5 (0, 0))) (hl : xs.length = m) (hc : Chg (fun _ => False) w w2) (hm : m ≤ 140737488355328) (hB : B ≤ w.heap.size) :
    Rd B (w2.alloc (.cells #[.int .i64 0, .slice (some ⟨w.heap.size, 0, none⟩) m m] 92)) w2.heap.size w.heap.size xs 0 := by
  refine ⟨Nat.le_trans hB hc.size, hB, ?_, ?_, Nat.zero_le _, by omega⟩
  · rw [hl]; exact heap_alloc_new w2 _
  · rw [Below.heap_alloc _ _ _ (lt_of_blk h2)]; exact h2
set_option maxHeartbeats 800000 in
theorem newReader_any (B : Nat) (ad : Option Addr) (m c : Nat) (xs : List Int) (w : World) (h : Row8 w ad m c xs) (hm : m ≤ 140737488355328) (hB : B ≤ w.heap.size) :
    Calls Tryd.prog 38 #[.slice ad m c] w fun e w' => ∃ a, e = .returned (.pointer (some ⟨a, 0, none⟩)) ∧ Rd B w' a w.heap.size xs 0 ∧ Chg (fun _ => False) w w' ∧ w.heap.size ≤ a := by
  have hl := h.1
  go_enter Tryd.func38, Tryd.ntmps38
  go_wp2_with fail
  refine (fresh_any _ _ _ xs _ h hm).mono ?_
  rintro e w2 ⟨rfl, h2, hc⟩
  have HF : Hid (w2.heap[w.heap.size]? = some (.cells (cells8 xs).toArray 5 (0, 0))) := h2
  have HL : Hid (xs.length = m) := hl
  clear h2 h hl
  go_wp2
  go_ret
  exact ⟨w2.heap.size, rfl, newRd HF.out HL.out hc hm hB, hc.alloc _, hc.size⟩
set_option maxHeartbeats 800000 in
theorem left_any (B a g off : Nat) (xs : List Int) (w : World) (h : Rd B w a g xs off) :
    Calls Tryd.prog 58 #[.pointer (some ⟨a, 0, none⟩)] w fun e w' => e = .returned (.int .i64 ((xs.length : Int) - (off : Int))) ∧ ∃ k, w' = w.drewN k := by
  have hc0 := cell0 h.blk
  have hc1 := cell1 h.blk
  have hle := h.le
  have hlen := h.len
  clear h
  go_enter Tryd.func58, Tryd.ntmps58
  go_wp2
  go_quiet (fail)
  go_wp2
  go_ret
  exact ⟨rfl, _, rfl⟩
theorem chg_drewN {S : Nat → Prop} (w : World) (k : Nat) : Chg S w (w.drewN k) := ⟨rfl, rfl, rfl, Nat.le_refl _, fun _ _ _ => rfl⟩
theorem row8_zero (w : World) (x : Addr) (c : Nat) : Row8 w (some x) 0 c [] := ⟨rfl, .inr ⟨x, rfl, fun j u hu => by simp at hu⟩⟩
theorem row8_mid {w : World} {g : Nat} {xs : List Int} (h : w.heap[g]? = some (.cells (cells8 xs).toArray 5 (0, 0))) (off n c : Nat) (hn : off + n ≤ xs.length) : Row8 w (some ⟨g, off, none⟩) n c ((xs.drop off).take n) := by
  refine ⟨by simp; omega, .inr ⟨_, rfl, fun j u hu => ?_⟩⟩
  have hadd : (⟨g, off, none⟩ : Addr).add j = ⟨g, off + j, none⟩ := by unfold Addr.add; split <;> simp_all
  rw [hadd, cell_of_row w g (off + j) _ 5 (0, 0) h]
  rw [List.map_take, List.map_drop, List.getElem?_take] at hu
  split at hu
  · rw [List.getElem?_drop] at hu
    simpa [cells8] using hu
  · cases hu
/-- A slice that tells n bytes of the list 'xs' in block g, from place off on, in every world that has the list there. -/
def Seg (g : Nat) (xs : List Int) (off : Nat) (ad : Option Addr) (n c : Nat) : Prop :=
  ∀ w : World, w.heap[g]? = some (.cells (cells8 xs).toArray 5 (0, 0)) → Row8 w ad n c ((xs.drop off).take n)
set_option maxHeartbeats 800000 in
theorem peek_ok (B a g off : Nat) (xs : List Int) (n : Nat) (w : World) (h : Rd B w a g xs off) (hb : off + n ≤ xs.length) :
    Calls Tryd.prog 57 #[.pointer (some ⟨a, 0, none⟩), .int .i64 n] w fun e w' => ∃ ad c, e = .returned (.tuple #[.slice ad n c, .int .i64 0]) ∧ Seg g xs off ad n c ∧ ∃ k, w' = w.drewN k := by
  have hc0 := cell0 h.blk
  have hc1 := cell1 h.blk
  have hle := h.le
  have hlen := h.len
  go_enter Tryd.func57, Tryd.ntmps57
  go_wp2_with fail
  refine (left_any _ _ _ _ _ _ h).mono ?_
  rintro e w2 ⟨rfl, k, rfl⟩
  clear h
  go_wp2
  go_quiet (fail)
  all_goals go_wp2
  · have hx : xs.length = off := by assumption
    obtain rfl : n = 0 := by omega
    go_ret2
    exact ⟨_, _, rfl, fun w _ => by simpa using row8_zero w _ _, _, rfl⟩
  · go_ret2
    exact ⟨_, _, rfl, fun w hw => row8_mid hw off n _ hb, _, rfl⟩
/-- The reader behind a store of its place. -/
theorem Rd.set {B : Nat} {w w' : World} {a g off off' : Nat} {xs : List Int} (h : Rd B w a g xs off) (hw : w'.heap = w.heap) (hle : off' ≤ xs.length) (n : Int) (hn : n = (off' : Int)) : Rd B (w'.setCell ⟨a, 0, none⟩ (.int .i64 n)) a g xs off' := by
  have hb : w'.heap[a]? = some (.cells #[.int .i64 off, .slice (some ⟨g, 0, none⟩) xs.length xs.length] 92 (0, 0)) := by rw [hw]; exact h.blk
  refine ⟨h.loA, h.loG, ?_, ?_, hle, h.len⟩
  · rw [blk_set0 hb, hn]
  · rw [Below.heap_setCell _ _ _ _ (by exact h.ne), hw]; exact h.row
theorem chg_set {w w' : World} {a : Nat} (hc : Chg (fun k => k = a) w w') (u : Value) : Chg (fun k => k = a) w (w'.setCell ⟨a, 0, none⟩ u) := hc.setCell (p := ⟨a, 0, none⟩) (.inl rfl) u
set_option maxHeartbeats 800000 in
theorem next_ok (B a g off : Nat) (xs : List Int) (n : Nat) (w : World) (h : Rd B w a g xs off) (hb : off + n ≤ xs.length) :
    Calls Tryd.prog 54 #[.pointer (some ⟨a, 0, none⟩), .int .i64 n] w fun e w' => ∃ ad c, e = .returned (.tuple #[.slice ad n c, .int .i64 0]) ∧ Seg g xs off ad n c ∧ Rd B w' a g xs (off + n) ∧ Chg (fun k => k = a) w w' := by
  have hc0 : ∀ k, (w.drewN k).cell? ⟨a, 0, none⟩ = some (.int .i64 off) := fun k => cell0 h.blk
  have hf0 : ∀ k, (w.drewN k).frozen? ⟨a, 0, none⟩ = false := fun k => free0 h.blk
  have hle := h.le
  have hlen := h.len
  go_enter Tryd.func54, Tryd.ntmps54
  go_wp2_with fail
  refine (peek_ok _ _ _ _ _ _ _ h hb).mono ?_
  rintro e w2 ⟨ad, c, rfl, hr, k, rfl⟩
  go_wp2_with fail
  refine (pass_any a off n _ (hc0 k) (hf0 k) (by omega) (by omega) (by omega)).mono ?_
  rintro e w2 ⟨rfl, rfl⟩
  have HR : Hid (Rd B ((w.drewN k).setCell ⟨a, 0, none⟩ (.int .i64 ((off : Int) + (n : Int)))) a g xs (off + n)) := h.set (w' := w.drewN k) rfl hb _ (by omega)
  have HC : Hid (Chg (fun k => k = a) w ((w.drewN k).setCell ⟨a, 0, none⟩ (.int .i64 ((off : Int) + (n : Int))))) := chg_set (chg_drewN _ _) _
  clear h hc0 hf0
  go_wp2
  go_ret2
  exact ⟨_, _, rfl, hr, HR.out, HC.out⟩
/-- What a call on a reader may have turned: its own block; all else is as it was. -/
theorem Rd.chg {B : Nat} {w w' : World} {a g off : Nat} {xs : List Int} (h : Rd B w a g xs off) (hc : Chg (fun _ => False) w w') : Rd B w' a g xs off := h.keep hc (fun f => f) (fun f => f)
theorem chg_none {S : Nat → Prop} {w w' : World} (hc : Chg (fun _ => False) w w') : Chg S w w' := hc.mono (fun _ f => f.elim)
theorem chg_then {S : Nat → Prop} {w w1 w2 : World} (hc : Chg S w w1) (hd : Chg (fun _ => False) w1 w2) : Chg S w w2 := hc.trans hd (fun _ f => f.elim)
/-- The number of bytes, the highest first. -/
def highNum (xs : List Int) : Int := xs.foldl (fun v x => v * 256 + x) 0
/-- Every one is a byte. -/
def Bytes8 (xs : List Int) : Prop := ∀ x ∈ xs, 0 ≤ x ∧ x ≤ 255
theorem Bytes8.cut {xs : List Int} (h : Bytes8 xs) (off n : Nat) : Bytes8 ((xs.drop off).take n) := fun x hx => h x (List.mem_of_mem_drop (List.mem_of_mem_take hx))
theorem Bytes8.take {xs : List Int} (h : Bytes8 xs) (n : Nat) : Bytes8 (xs.take n) := fun x hx => h x (List.mem_of_mem_take hx)
theorem highNum_snoc (xs : List Int) (x : Int) : highNum (xs ++ [x]) = highNum xs * 256 + x := by simp [highNum]
theorem highNum_take (ys : List Int) (k : Nat) (h : k < ys.length) : highNum (ys.take (k + 1)) = highNum (ys.take k) * 256 + ys[k] := by
  rw [List.take_succ_eq_append_getElem h, highNum_snoc]
/-- The number of bytes, the lowest first. -/
def lowNum (xs : List Int) : Int := xs.foldr (fun x v => x + 256 * v) 0
theorem lowNum_bd : ∀ (xs : List Int), Bytes8 xs → 0 ≤ lowNum xs ∧ lowNum xs < 256 ^ xs.length
  | [], _ => by simp [lowNum]
  | x :: xs, h => by
    have hx := h x (by simp)
    have ih := lowNum_bd xs (fun y hy => h y (by simp [hy]))
    have e2 : lowNum (x :: xs) = x + 256 * lowNum xs := rfl
    rw [e2, List.length_cons, Int.pow_succ]
    omega
theorem highNum_rev (xs : List Int) : highNum xs = lowNum xs.reverse := by
  unfold highNum lowNum
  rw [List.foldr_reverse]
  congr 1
  funext v x
  omega
theorem highNum_bd (xs : List Int) (h : Bytes8 xs) : 0 ≤ highNum xs ∧ highNum xs < 256 ^ xs.length := by
  have := lowNum_bd xs.reverse (fun x hx => h x (by simpa using hx))
  rw [← highNum_rev, List.length_reverse] at this
  exact this
theorem pow_le8 (k : Nat) (h : k ≤ 8) : (256 : Int) ^ k ≤ 18446744073709551616 := by
  match k, h with
  | 0, _ | 1, _ | 2, _ | 3, _ | 4, _ | 5, _ | 6, _ | 7, _ | 8, _ => decide
theorem wrap_u64 (n : Int) (h0 : 0 ≤ n) (h1 : n < 18446744073709551616) : IntKind.u64.wrap n = n := by
  have e : IntKind.u64.wrap n = n % 18446744073709551616 := by simp [IntKind.wrap, IntKind.signed, IntKind.bits]
  rw [e]
  exact Int.emod_eq_of_lt h0 h1
theorem or_add (i a b : Nat) (hb : b < 2 ^ i) : 2 ^ i * a ||| b = 2 ^ i * a + b := (Nat.two_pow_add_eq_or_of_lt hb a).symm
/-- One byte more behind those that are read, the highest first. -/
theorem high_step (ys : List Int) (h : Bytes8 ys) (k : Nat) (hk : k < ys.length) (h8 : k < 8) :
    bits .or .u64 (IntKind.u64.wrap (highNum (ys.take k) * 256)) (IntKind.u64.wrap ys[k]) = highNum (ys.take (k + 1)) := by
  have hb := highNum_bd (ys.take k) (h.take k)
  have hb2 := highNum_bd (ys.take (k + 1)) (h.take (k + 1))
  have hx := h ys[k] (by simp)
  rw [highNum_take ys k hk] at hb2 ⊢
  have hp := pow_le8 (k + 1) (by omega)
  rw [List.length_take, Nat.min_eq_left (by omega)] at hb2
  generalize highNum (ys.take k) = v at *
  generalize ys[k] = x at *
  rw [wrap_u64 _ (by omega) (by omega), wrap_u64 _ (by omega) (by omega)]
  rw [u64_or _ _ (by omega) (by omega) (by omega) (by omega)]
  obtain ⟨v, rfl⟩ := Int.eq_ofNat_of_zero_le (show 0 ≤ v by omega)
  obtain ⟨x, rfl⟩ := Int.eq_ofNat_of_zero_le (show 0 ≤ x by omega)
  have e1 : ((v : Int) * 256).toNat = 2 ^ 8 * v := by omega
  rw [e1, Int.toNat_natCast, or_add 8 v x (by omega)]
  omega
set_option maxHeartbeats 400000 in
theorem number_ok (B a g off : Nat) (xs : List Int) (n : Nat) (w : World) (h : Rd B w a g xs off) (h1 : 1 ≤ n) (h2 : n ≤ 8) (hb : off + n ≤ xs.length) :
    Calls Tryd.prog 45 #[.pointer (some ⟨a, 0, none⟩), .int .i64 n] w fun e w' => ∃ ad c, e = .returned (.tuple #[.slice ad n c, .int .i64 0]) ∧ Seg g xs off ad n c ∧ Rd B w' a g xs (off + n) ∧ Chg (fun k => k = a) w w' := by
  go_enter Tryd.func45, Tryd.ntmps45
  go_wp2_with fail
  refine (isWidth_yes _ _ (by omega) (by omega)).mono ?_
  rintro e w' ⟨rfl, rfl⟩
  go_wp2_with fail
  refine (next_ok _ _ _ _ _ _ _ h hb).mono ?_
  rintro e w2 ⟨ad, c, rfl, hs, hr, hc⟩
  clear h
  go_wp2
  go_ret2
  exact ⟨_, _, rfl, hs, hr, hc⟩
/-- Bytes that lie at an address, one by one. -/
theorem row8_cells {w : World} {ad : Option Addr} {n c : Nat} {ys : List Int} (h : Row8 w ad n c ys) (hn : 1 ≤ n) : ∃ x, ad = some x ∧ ∀ k, k < n → w.cell? (x.add k) = some (.int .u8 (ys.getD k 0)) := by
  rcases h.2 with ⟨_, e, _⟩ | ⟨x, e, hx⟩
  · omega
  · exact ⟨x, e, fun k hk => hx k _ (by simp [List.getD, show k < ys.length by have := h.1; omega])⟩
theorem next_i (B a g off : Nat) (xs : List Int) (n : Int) (w : World) (h : Rd B w a g xs off) (h0 : 0 ≤ n) (hb : (off : Int) + n ≤ xs.length) :
    Calls Tryd.prog 54 #[.pointer (some ⟨a, 0, none⟩), .int .i64 n] w fun e w' => ∃ ad c, e = .returned (.tuple #[.slice ad n.toNat c, .int .i64 0]) ∧ Seg g xs off ad n.toNat c ∧ Rd B w' a g xs (off + n.toNat) ∧ Chg (fun k => k = a) w w' := by
  obtain ⟨k, rfl⟩ := Int.eq_ofNat_of_zero_le h0
  rw [Int.toNat_natCast]
  exact next_ok B a g off xs k w h (by omega)
theorem newWr_at (B : Nat) (w : World) (hB : B ≤ w.heap.size) : Wr B (w.alloc (.cells #[.int .i64 0, .slice none 0 0] 79)) w.heap.size (.slice none 0 0) [] :=
  ⟨hB, by simpa using heap_alloc_new w (.cells #[.int .i64 0, .slice none 0 0] 79), World.ownsRow_nil _ _ _ _⟩
/-- What lies in a block stays there while nothing of it is turned. -/
theorem blk_keep {S : Nat → Prop} {w w' : World} {g : Nat} {o : Obj} (h : w.heap[g]? = some o) (hc : Chg S w w') (hS : ¬ S g) : w'.heap[g]? = some o := (hc.block g (lt_of_blk h) hS).trans h
/-- The foot of a writer that has no bytes yet is its own block. -/
theorem foot_nil {a k : Nat} (h : Foot a (.slice none 0 0) k) : k = a := by
  rcases h with h | h
  · exact h
  · simp [Value.ownBlock] at h
theorem moved_nil {w : World} {v : Value} (h : Moved w (.slice none 0 0) v) {g : Nat} (hg : v.ownBlock = some g) : w.heap.size ≤ g := by
  rcases h g hg with e | e
  · simp [Value.ownBlock] at e
  · exact e
end Go.Proofs.YtikokgngkagieaaDoor.Wire
