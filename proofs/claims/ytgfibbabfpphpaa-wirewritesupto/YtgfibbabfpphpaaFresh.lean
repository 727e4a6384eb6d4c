/- The contracts of fresh, of the writer's Bytes and of NewReader: a new list of the same bytes, of no statement by themselves. -/
import Derived.Test.YtgfibbabfpphpaaZeros
namespace Go.Proofs.Ytgfibbabfpphpaa
open Go.RowKit

theorem size5 : (Try.prog.info? 5).map (·.size) = some 1 := by kernel_rfl

/-- Bytes as cells. -/
def cells8 (xs : List Int) : List Value := xs.map (Value.int .u8)

theorem splice_all (n : Nat) (z : Value) (cs : List Value) (h : cs.length = n) : splice (List.replicate n z) 0 cs = cs := by
  simp [splice, h]

set_option maxHeartbeats 800000 in
theorem fresh_any (ad : Option Addr) (m c : Nat) (xs : List Int) (w : World) (h : Row8 w ad m c xs) (hm : m ≤ 140737488355328) :
    Calls Try.prog 31 #[.slice ad m c] w fun e w' => e = .returned (.slice (some ⟨w.heap.size, 0, none⟩) m m) ∧ w'.heap[w.heap.size]? = some (.cells (cells8 xs).toArray 5 (0, 0)) ∧ Chg (fun _ => False) w w' := by
  obtain ⟨i0, hi, hz0, hz1, hz2⟩ := info_parts info5
  obtain ⟨cs, hcs⟩ : ∃ cs, cs = cells8 xs := ⟨_, rfl⟩
  have hl : cs.length = m := by rw [hcs]; simp [cells8, h.1]
  have h1 : ∀ u ∈ cs, u.oneCell' = true := by rw [hcs]; exact oneCells xs
  have hsrc : ∀ w2, Chg (fun _ => False) w w2 → 0 < cs.length → ∃ x, ad = some x ∧ ∀ j v, cs[j]? = some v → w2.cell? (x.add j) = some v := by
    intro w2 hc hp
    have hk := row8_keep h hc (fun _ _ f => f)
    rcases hk.2 with ⟨_, e, _⟩ | ⟨x, e, hx⟩
    · omega
    · exact ⟨x, e, by rw [hcs]; exact hx⟩
  have HC : Hid (cs = cells8 xs) := hcs
  clear h hcs
  go_enter Try.func31, Try.ntmps31
  go_wp2_with (at_make; refine wpList_make_full _ rfl (.tmp 5) (.tmp 5) 22 rfl w.heap.size 5 i0 (.int .u8 0) 1 Try.underlying22 hi hz0 hz1 .i64 .i64 _ _ m rfl rfl rfl rfl (by rw [hz2]; omega) (by unfold maxLen; omega) (Nat.le_refl _) ?_)
  intro w1 hown hg
  have hc : Chg (fun _ => False) w w1 := (Chg.refl _ w).grown hg (fun k e => by cases e)
  have hrow : w1.heap[w.heap.size]? = some (.cells (List.replicate m (Value.int .u8 0)).toArray 5 (0, 0)) := by
    rcases hown.2 with ⟨e, _⟩ | ⟨g, cap, cur, e, _, hh, _, _, hs, ht⟩
    · cases e
    · simp only [Value.slice.injEq, Option.some.injEq, Addr.mk.injEq] at e
      obtain ⟨⟨rfl, _⟩, _, rfl⟩ := e
      rw [toList_madeCells_one, List.take_of_length_le (by simp; omega)] at ht
      rw [hh]
      rw [← ht]
  have HR : Hid (w1.heap[w.heap.size]? = some (.cells (List.replicate m (Value.int .u8 0)).toArray 5 (0, 0))) := hrow
  have HS := hsrc w1 hc
  have hb : Below w.heap.size w w1 := hc.below (Nat.le_refl _) (fun _ f => f.elim)
  clear hown hg hrow hsrc hc
  go_wp2_with (refine wpList_copy_splice rfl (.tmp 7) (.tmp 8) 22 22 rfl 5 Try.underlying22 size5 _ _ _ _ _ _ rfl rfl w.heap.size 0 _ 5 HR.out cs (by simp [hl]) (fun hp => ⟨rfl, HS hp⟩) (by simp [hl]) h1 w.heap.size w hb (Nat.le_refl _) ?_)
  intro w2 h2 hb2
  have R : w2.heap[w.heap.size]? = some (.cells (cells8 xs).toArray 5 (0, 0)) := by
    have := h2.out
    rw [splice_all m _ cs hl] at this
    rw [this, HC.out]
  have C : Chg (fun _ => False) w w2 := (Chg.of_below hb2).mono (fun k f => .inr f)
  have HF : Hid (w2.heap[w.heap.size]? = some (.cells (cells8 xs).toArray 5 (0, 0))) := R
  clear R h2 HS HR hb hb2 HC
  go_wp2
  go_ret
  exact ⟨rfl, HF.out, C⟩

/-- A new list of bytes: the block and that it is whole. -/
theorem row8_blk {w : World} {g : Nat} {xs : List Int} (h : w.heap[g]? = some (.cells (cells8 xs).toArray 5 (0, 0))) (m : Nat) (hm : xs.length = m) (c : Nat) : Row8 w (some ⟨g, 0, none⟩) m c xs := by
  refine ⟨hm, .inr ⟨_, rfl, fun j u hu => ?_⟩⟩
  have hadd : (⟨g, 0, none⟩ : Addr).add j = ⟨g, j, none⟩ := by unfold Addr.add; split <;> simp_all
  rw [hadd, cell_of_row w g j _ 5 (0, 0) h]
  simpa [cells8] using hu

set_option maxHeartbeats 800000 in
theorem bytes_any (B a : Nat) (v : Value) (bs : List Int) (w : World) (h : Wr B w a v bs) (hm : bs.length ≤ 140737488355328) :
    Calls Try.prog 21 #[.pointer (some ⟨a, 0, none⟩)] w fun e w' => e = .returned (.slice (some ⟨w.heap.size, 0, none⟩) bs.length bs.length) ∧ w'.heap[w.heap.size]? = some (.cells (cells8 bs).toArray 5 (0, 0)) ∧ Chg (fun _ => False) w w' := by
  obtain ⟨va, vc, rfl, hr⟩ := own_row8 h.row
  have hc1 := cell1 h.blk
  clear h
  go_enter Try.func21, Try.ntmps21
  go_wp2_with fail
  refine (fresh_any _ _ _ bs _ hr hm).mono ?_
  rintro e w2 ⟨rfl, h2, hc⟩
  have HF : Hid (w2.heap[w.heap.size]? = some (.cells (cells8 bs).toArray 5 (0, 0))) := h2
  clear h2 hr
  go_wp2
  go_ret
  exact ⟨rfl, HF.out, hc⟩

/-- A reader at block a: how many bytes are read, and the list, which lies whole in block g. -/
structure Rd (B : Nat) (w : World) (a g : Nat) (xs : List Int) (off : Nat) : Prop where
  loA : B ≤ a
  loG : B ≤ g
  blk : w.heap[a]? = some (.cells #[.int .i64 off, .slice (some ⟨g, 0, none⟩) xs.length xs.length] 73 (0, 0))
  row : w.heap[g]? = some (.cells (cells8 xs).toArray 5 (0, 0))
  le : off ≤ xs.length
  len : xs.length ≤ 140737488355328

theorem Rd.lt {B : Nat} {w : World} {a g off : Nat} {xs : List Int} (h : Rd B w a g xs off) : a < w.heap.size ∧ g < w.heap.size := ⟨lt_of_blk h.blk, lt_of_blk h.row⟩
theorem Rd.ne {B : Nat} {w : World} {a g off : Nat} {xs : List Int} (h : Rd B w a g xs off) : g ≠ a := by
  intro e
  have h1 := h.blk
  have h2 := h.row
  rw [e, h1] at h2
  simp at h2
theorem Rd.keep {B : Nat} {w w' : World} {a g off : Nat} {xs : List Int} {S : Nat → Prop} (h : Rd B w a g xs off) (hc : Chg S w w') (ha : ¬ S a) (hg : ¬ S g) : Rd B w' a g xs off :=
  ⟨h.loA, h.loG, (hc.block a h.lt.1 ha).trans h.blk, (hc.block g h.lt.2 hg).trans h.row, h.le, h.len⟩

theorem newRd {B : Nat} {w w2 : World} {m : Nat} {xs : List Int} (h2 : w2.heap[w.heap.size]? = some (.cells (cells8 xs).toArray 5 (0, 0))) (hl : xs.length = m) (hc : Chg (fun _ => False) w w2) (hm : m ≤ 140737488355328) (hB : B ≤ w.heap.size) :
    Rd B (w2.alloc (.cells #[.int .i64 0, .slice (some ⟨w.heap.size, 0, none⟩) m m] 73)) w2.heap.size w.heap.size xs 0 := by
  refine ⟨Nat.le_trans hB hc.size, hB, ?_, ?_, Nat.zero_le _, by omega⟩
  · rw [hl]; exact heap_alloc_new w2 _
  · rw [Below.heap_alloc _ _ _ (lt_of_blk h2)]; exact h2

set_option maxHeartbeats 800000 in
theorem newReader_any (B : Nat) (ad : Option Addr) (m c : Nat) (xs : List Int) (w : World) (h : Row8 w ad m c xs) (hm : m ≤ 140737488355328) (hB : B ≤ w.heap.size) :
    Calls Try.prog 9 #[.slice ad m c] w fun e w' => ∃ a, e = .returned (.pointer (some ⟨a, 0, none⟩)) ∧ Rd B w' a w.heap.size xs 0 ∧ Chg (fun _ => False) w w' ∧ w.heap.size ≤ a := by
  have hl := h.1
  go_enter Try.func9, Try.ntmps9
  go_wp2_with fail
  refine (fresh_any _ _ _ xs _ h hm).mono ?_
  rintro e w2 ⟨rfl, h2, hc⟩
  have HF : Hid (w2.heap[w.heap.size]? = some (.cells (cells8 xs).toArray 5 (0, 0))) := h2
  have HL : Hid (xs.length = m) := hl
  clear h2 h hl
  go_wp2
  go_ret
  exact ⟨w2.heap.size, rfl, newRd HF.out HL.out hc hm hB, hc.alloc _, hc.size⟩

end Go.Proofs.Ytgfibbabfpphpaa
