/- The contracts of the document's own reader, of no statement by themselves. -/
import Derived.Test.YtgfibbabfpphpaaLent
namespace Go.Proofs.Ytgfibbabfpphpaa
open Go.RowKit

/-- A block that begins with these bytes. -/
def HasRow (w : World) (g : Nat) (xs : List Int) : Prop := ∃ cur, w.heap[g]? = some (.cells cur 5 (0, 0)) ∧ cur.toList.take xs.length = cells8 xs

theorem HasRow.keep {w w' : World} {S : Nat → Prop} {g : Nat} {xs : List Int} (h : HasRow w g xs) (hc : Chg S w w') (hS : ¬ S g) : HasRow w' g xs := by
  obtain ⟨cur, h1, h2⟩ := h
  exact ⟨cur, blk_keep h1 hc hS, h2⟩

/-- The document's reader at block a: what is left of the list in block g, and how much is read. -/
structure RR (B : Nat) (w : World) (a g : Nat) (xs : List Int) (off : Nat) (ad : Option Addr) (c : Nat) : Prop where
  loA : B ≤ a
  loG : B ≤ g
  blk : w.heap[a]? = some (.cells #[.slice ad (xs.length - off) c, .int .i64 off] 66 (0, 0))
  row : HasRow w g xs
  seg : ∀ w2, HasRow w2 g xs → Row8 w2 ad (xs.length - off) c (xs.drop off)
  cap : xs.length - off ≤ c
  le : off ≤ xs.length
  len : xs.length ≤ 140737488000000

theorem RR.lt {B : Nat} {w : World} {a g off c : Nat} {xs : List Int} {ad : Option Addr} (h : RR B w a g xs off ad c) : a < w.heap.size ∧ g < w.heap.size := ⟨lt_of_blk h.blk, by obtain ⟨cur, h1, _⟩ := h.row; exact lt_of_blk h1⟩
theorem RR.ne {B : Nat} {w : World} {a g off c : Nat} {xs : List Int} {ad : Option Addr} (h : RR B w a g xs off ad c) : g ≠ a := by
  intro e
  obtain ⟨cur, h1, _⟩ := h.row
  have h2 := h.blk
  rw [← e, h1] at h2
  simp at h2
theorem RR.keep {B : Nat} {w w' : World} {a g off c : Nat} {xs : List Int} {ad : Option Addr} {S : Nat → Prop} (h : RR B w a g xs off ad c) (hc : Chg S w w') (ha : ¬ S a) (hg : ¬ S g) : RR B w' a g xs off ad c :=
  ⟨h.loA, h.loG, blk_keep h.blk hc ha, h.row.keep hc hg, h.seg, h.cap, h.le, h.len⟩
theorem RR.new {B : Nat} {w w' : World} {a g off c : Nat} {xs : List Int} {ad : Option Addr} (h : RR B w a g xs off ad c) (hc : Chg (fun _ => False) w w') : RR B w' a g xs off ad c := h.keep hc (fun f => f) (fun f => f)

/-- A block of two cells, both written. -/
theorem blk_set01 {w : World} {a : Nat} {x y u v : Value} {t : TypeId} (h : w.heap[a]? = some (.cells #[x, y] t (0, 0))) : ((w.setCell ⟨a, 0, none⟩ u).setCell ⟨a, 1, none⟩ v).heap[a]? = some (.cells #[u, v] t (0, 0)) := blk_set1 (blk_set0 h)

theorem RR.step {B : Nat} {w : World} {a g off c : Nat} {xs : List Int} {ad : Option Addr} (h : RR B w a g xs off ad c) (n : Nat) (hn : off + n ≤ xs.length) (ad' : Option Addr) (had : ad' = (if c = n then ad else ad.map (·.add n))) :
    RR B ((w.setCell ⟨a, 0, none⟩ (.slice ad' (xs.length - off - n) (c - n))).setCell ⟨a, 1, none⟩ (.int .i64 ((off : Int) + (n : Int)))) a g xs (off + n) ad' (c - n) := by
  have hc : Chg (fun k => k = a) w ((w.setCell ⟨a, 0, none⟩ (.slice ad' (xs.length - off - n) (c - n))).setCell ⟨a, 1, none⟩ (.int .i64 ((off : Int) + (n : Int)))) :=
    ((Chg.refl (fun k => k = a) w).setCell (p := ⟨a, 0, none⟩) (.inl rfl) _).setCell (p := ⟨a, 1, none⟩) (.inl rfl) _
  have hcap := h.cap
  refine ⟨h.loA, h.loG, ?_, h.row.keep hc h.ne, fun w2 h2 => ?_, by omega, hn, h.len⟩
  · rw [blk_set01 h.blk, show xs.length - (off + n) = xs.length - off - n by omega]
    simp
  · have := row8_cut (h.seg w2 h2) h.cap n (xs.length - off - n) (c - n) (by omega) (fun e => by omega)
    rw [← had] at this
    rw [show xs.length - (off + n) = xs.length - off - n by omega]
    have e : ((xs.drop off).drop n).take (xs.length - off - n) = xs.drop (off + n) := by
      rw [List.drop_drop, List.take_of_length_le (by simp; omega)]
    rw [e] at this
    exact this

theorem RR.chg2 (w : World) (a : Nat) (u v : Value) : Chg (fun k => k = a) w ((w.setCell ⟨a, 0, none⟩ u).setCell ⟨a, 1, none⟩ v) :=
  ((Chg.refl (fun k => k = a) w).setCell (p := ⟨a, 0, none⟩) (.inl rfl) _).setCell (p := ⟨a, 1, none⟩) (.inl rfl) _

set_option maxRecDepth 100000 in
set_option maxHeartbeats 1000000 in
theorem refReads_any (B a g off c : Nat) (xs : List Int) (ad : Option Addr) (n : Nat) (w : World) (h : RR B w a g xs off ad c) (hn : off + n ≤ xs.length) :
    Calls Try.prog 57 #[.pointer (some ⟨a, 0, none⟩), .int .i64 n] w fun e w' => e = .returned (.tuple #[]) ∧ (∃ ad', RR B w' a g xs (off + n) ad' (c - n)) ∧ Chg (fun k => k = a) w w' := by
  have hlen := h.len
  have hcap := h.cap
  have hc0 := cell0 h.blk
  have hc1 := cell1 h.blk
  have hf0 := free0 h.blk
  have hf1 := free1 h.blk
  have hnm : n ≤ xs.length - off := by omega
  have q1 : ∀ u, (w.setCell ⟨a, 0, none⟩ u).cell? ⟨a, 1, none⟩ = some (.int .i64 off) := fun u => (World.cell?_setCell_other _ _ _ _ (by simp)).trans hc1
  by_cases hcn : c = n
  · subst hcn
    have R := h.step c hn ad (by rw [if_pos rfl])
    have C := RR.chg2 w a (.slice ad 0 0) (.int .i64 ((off : Int) + (c : Int)))
    rw [Nat.sub_self, show xs.length - off - c = 0 by omega] at R
    have HR : Hid (RR B ((w.setCell ⟨a, 0, none⟩ (.slice ad 0 0)).setCell ⟨a, 1, none⟩ (.int .i64 ((off : Int) + (c : Int)))) a g xs (off + c) ad 0) := R
    have HC : Hid (Chg (fun k => k = a) w ((w.setCell ⟨a, 0, none⟩ (.slice ad 0 0)).setCell ⟨a, 1, none⟩ (.int .i64 ((off : Int) + (c : Int))))) := C
    clear R C h
    rw [Nat.sub_self]
    go_enter Try.func57, Try.ntmps57
    go_wp2
    go_end0
    exact ⟨rfl, ⟨_, HR.out⟩, HC.out⟩
  · have R := h.step n hn (ad.map (·.add n)) (by rw [if_neg hcn])
    have C := RR.chg2 w a (.slice (ad.map (·.add n)) (xs.length - off - n) (c - n)) (.int .i64 ((off : Int) + (n : Int)))
    have HR : Hid (RR B ((w.setCell ⟨a, 0, none⟩ (.slice (ad.map (·.add n)) (xs.length - off - n) (c - n))).setCell ⟨a, 1, none⟩ (.int .i64 ((off : Int) + (n : Int)))) a g xs (off + n) (ad.map (·.add n)) (c - n)) := R
    have HC : Hid (Chg (fun k => k = a) w ((w.setCell ⟨a, 0, none⟩ (.slice (ad.map (·.add n)) (xs.length - off - n) (c - n))).setCell ⟨a, 1, none⟩ (.int .i64 ((off : Int) + (n : Int))))) := C
    clear R C h
    go_enter Try.func57, Try.ntmps57
    go_wp2
    go_end0
    exact ⟨rfl, ⟨_, HR.out⟩, HC.out⟩

set_option maxHeartbeats 400000 in
theorem reftake_neg (a : Nat) (n : Int) (w : World) (hn : n < 0) :
    Calls Try.prog 56 #[.pointer (some ⟨a, 0, none⟩), .int .i64 n] w fun e w' => e = .returned (.tuple #[.slice none 0 0, .int .i64 7]) ∧ w = w' := by
  go_enter Try.func56, Try.ntmps56
  go_wp2
  go_ret2
  exact ⟨rfl, rfl⟩

set_option maxHeartbeats 400000 in
theorem reftake_big (B a g off c : Nat) (xs : List Int) (ad : Option Addr) (n : Int) (w : World) (h : RR B w a g xs off ad c) (hn : 0 ≤ n) (hb : (xs.length : Int) - off < n) :
    Calls Try.prog 56 #[.pointer (some ⟨a, 0, none⟩), .int .i64 n] w fun e w' => e = .returned (.tuple #[.slice none 0 0, .int .i64 1]) ∧ w = w' := by
  have hc0 := cell0 h.blk
  have hle := h.le
  have hlt : ((xs.length - off : Nat) : Int) < n := by omega
  clear h
  go_enter Try.func56, Try.ntmps56
  go_wp2
  go_ret2
  exact ⟨rfl, rfl⟩

set_option maxHeartbeats 400000 in
theorem reftake_ok (B a g off c : Nat) (xs : List Int) (ad : Option Addr) (n : Nat) (w : World) (h : RR B w a g xs off ad c) (hn : off + n ≤ xs.length) :
    Calls Try.prog 56 #[.pointer (some ⟨a, 0, none⟩), .int .i64 n] w fun e w' => e = .returned (.tuple #[.slice ad n c, .int .i64 0]) ∧ w = w' := by
  have hc0 := cell0 h.blk
  have hcap := h.cap
  have hle : ((n : Nat) : Int) ≤ ((xs.length - off : Nat) : Int) := by omega
  have hnc : n ≤ c := by omega
  clear h
  go_enter Try.func56, Try.ntmps56
  go_wp2
  go_ret2
  exact ⟨rfl, rfl⟩

/-- What is left of the document's list, cut to n bytes. -/
theorem RR.cut {B a g off c : Nat} {xs : List Int} {ad : Option Addr} {w : World} (h : RR B w a g xs off ad c) (n : Nat) (hn : off + n ≤ xs.length) : ∀ w2, HasRow w2 g xs → Row8 w2 ad n c ((xs.drop off).take n) :=
  fun w2 h2 => row8_take (h.seg w2 h2) n (by omega)

set_option maxHeartbeats 400000 in
theorem refTake_ok (B a g off c : Nat) (xs : List Int) (ad : Option Addr) (n : Nat) (w : World) (h : RR B w a g xs off ad c) (hn : off + n ≤ xs.length) :
    Calls Try.prog 51 #[.pointer (some ⟨a, 0, none⟩), .int .i64 n] w fun e w' => e = .returned (.tuple #[.slice ad n c, .int .i64 0]) ∧ (∃ ad', RR B w' a g xs (off + n) ad' (c - n)) ∧ Chg (fun k => k = a) w w' := by
  go_enter Try.func51, Try.ntmps51
  go_wp2_with fail
  refine (reftake_ok _ _ _ _ _ _ _ _ _ h hn).mono ?_
  rintro e w2 ⟨rfl, rfl⟩
  go_wp2_with fail
  refine (refReads_any _ _ _ _ _ _ _ _ _ h hn).mono ?_
  rintro e w2 ⟨rfl, hr, hc⟩
  clear h
  go_wp2
  go_ret2
  exact ⟨rfl, hr, hc⟩

set_option maxHeartbeats 400000 in
theorem refTake_neg (B a g off c : Nat) (xs : List Int) (ad : Option Addr) (n : Int) (w : World) (h : RR B w a g xs off ad c) (hn : n < 0) :
    Calls Try.prog 51 #[.pointer (some ⟨a, 0, none⟩), .int .i64 n] w fun e w' => e = .returned (.tuple #[.slice none 0 0, .int .i64 7]) ∧ (∃ ad', RR B w' a g xs off ad' c) ∧ Chg (fun k => k = a) w w' := by
  have h0 := refReads_any _ _ _ _ _ _ _ 0 _ h (by have := h.le; omega)
  go_enter Try.func51, Try.ntmps51
  go_wp2_with fail
  refine (reftake_neg _ _ _ hn).mono ?_
  rintro e w2 ⟨rfl, rfl⟩
  go_wp2_with fail
  refine h0.mono ?_
  rintro e w2 ⟨rfl, hr, hc⟩
  clear h h0
  go_wp2
  go_ret2
  exact ⟨rfl, hr, hc⟩

set_option maxHeartbeats 400000 in
theorem refTake_big (B a g off c : Nat) (xs : List Int) (ad : Option Addr) (n : Int) (w : World) (h : RR B w a g xs off ad c) (hn : 0 ≤ n) (hb : (xs.length : Int) - off < n) :
    Calls Try.prog 51 #[.pointer (some ⟨a, 0, none⟩), .int .i64 n] w fun e w' => e = .returned (.tuple #[.slice none 0 0, .int .i64 1]) ∧ (∃ ad', RR B w' a g xs off ad' c) ∧ Chg (fun k => k = a) w w' := by
  have h0 := refReads_any _ _ _ _ _ _ _ 0 _ h (by have := h.le; omega)
  go_enter Try.func51, Try.ntmps51
  go_wp2_with fail
  refine (reftake_big _ _ _ _ _ _ _ _ _ h hn hb).mono ?_
  rintro e w2 ⟨rfl, rfl⟩
  go_wp2_with fail
  refine h0.mono ?_
  rintro e w2 ⟨rfl, hr, hc⟩
  clear h h0
  go_wp2
  go_ret2
  exact ⟨rfl, hr, hc⟩

end Go.Proofs.Ytgfibbabfpphpaa
