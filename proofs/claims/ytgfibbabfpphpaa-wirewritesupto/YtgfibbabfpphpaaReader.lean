/- The contracts of the reader's own functions: what each call answers and what it leaves of the reader, of no statement by themselves. -/
import Derived.Test.YtgfibbabfpphpaaFresh
import Derived.BigQuiet
import Derived.WalkSpells
namespace Go.Proofs.Ytgfibbabfpphpaa
open Go.RowKit

set_option maxHeartbeats 400000 in
theorem off_any (B a g off : Nat) (xs : List Int) (w : World) (h : Rd B w a g xs off) :
    Calls Try.prog 13 #[.pointer (some ⟨a, 0, none⟩)] w fun e w' => e = .returned (.int .i64 off) ∧ w = w' := by
  have hc0 := cell0 h.blk
  clear h
  go_enter Try.func13, Try.ntmps13
  go_wp2
  go_ret
  exact ⟨rfl, rfl⟩

set_option maxHeartbeats 800000 in
theorem left_any (B a g off : Nat) (xs : List Int) (w : World) (h : Rd B w a g xs off) :
    Calls Try.prog 10 #[.pointer (some ⟨a, 0, none⟩)] w fun e w' => e = .returned (.int .i64 ((xs.length : Int) - (off : Int))) ∧ ∃ k, w' = w.drewN k := by
  have hc0 := cell0 h.blk
  have hc1 := cell1 h.blk
  have hle := h.le
  have hlen := h.len
  clear h
  go_enter Try.func10, Try.ntmps10
  go_wp2
  go_quiet (fail)
  go_wp2
  go_ret
  exact ⟨rfl, _, rfl⟩

theorem chg_drewN {S : Nat → Prop} (w : World) (k : Nat) : Chg S w (w.drewN k) := ⟨rfl, rfl, rfl, Nat.le_refl _, fun _ _ _ => rfl⟩

set_option maxHeartbeats 400000 in
theorem peek_neg (a : Nat) (n : Int) (w : World) (hn : n < 0) :
    Calls Try.prog 33 #[.pointer (some ⟨a, 0, none⟩), .int .i64 n] w fun e w' => e = .returned (.tuple #[.slice none 0 0, .int .i64 7]) ∧ w = w' := by
  go_enter Try.func33, Try.ntmps33
  go_wp2
  go_ret2
  exact ⟨rfl, rfl⟩

set_option maxHeartbeats 400000 in
theorem peek_big (B a g off : Nat) (xs : List Int) (n : Int) (w : World) (h : Rd B w a g xs off) (hn : 0 ≤ n) (hb : (xs.length : Int) - off < n) :
    Calls Try.prog 33 #[.pointer (some ⟨a, 0, none⟩), .int .i64 n] w fun e w' => e = .returned (.tuple #[.slice none 0 0, .int .i64 1]) ∧ ∃ k, w' = w.drewN k := by
  go_enter Try.func33, Try.ntmps33
  go_wp2_with fail
  refine (left_any _ _ _ _ _ _ h).mono ?_
  rintro e w2 ⟨rfl, k, rfl⟩
  clear h
  go_wp2
  go_ret2
  exact ⟨rfl, _, rfl⟩

theorem row8_zero (w : World) (x : Addr) (c : Nat) : Row8 w (some x) 0 c [] := ⟨rfl, .inr ⟨x, rfl, fun j u hu => by simp at hu⟩⟩

theorem row8_mid {w : World} {g : Nat} {xs : List Int} (h : w.heap[g]? = some (.cells (cells8 xs).toArray 5 (0, 0))) (off n c : Nat) (hn : off + n ≤ xs.length) : Row8 w (some ⟨g, off, none⟩) n c ((xs.drop off).take n) := by
  refine ⟨by simp; omega, .inr ⟨_, rfl, fun j u hu => ?_⟩⟩
  have hadd : (⟨g, off, none⟩ : Addr).add j = ⟨g, off + j, none⟩ := by unfold Addr.add; split <;> simp_all
  rw [hadd, cell_of_row w g (off + j) _ 5 (0, 0) h]
  rw [List.map_take, List.map_drop, List.getElem?_take] at hu
  split at hu
  · rw [List.getElem?_drop] at hu
    simpa [cells8] using hu
  · cases hu

/-- A slice that tells n bytes of the list 'xs' in block g, from place off on, in every world that has the list there. -/
def Seg (g : Nat) (xs : List Int) (off : Nat) (ad : Option Addr) (n c : Nat) : Prop :=
  ∀ w : World, w.heap[g]? = some (.cells (cells8 xs).toArray 5 (0, 0)) → Row8 w ad n c ((xs.drop off).take n)

set_option maxHeartbeats 800000 in
theorem peek_ok (B a g off : Nat) (xs : List Int) (n : Nat) (w : World) (h : Rd B w a g xs off) (hb : off + n ≤ xs.length) :
    Calls Try.prog 33 #[.pointer (some ⟨a, 0, none⟩), .int .i64 n] w fun e w' => ∃ ad c, e = .returned (.tuple #[.slice ad n c, .int .i64 0]) ∧ Seg g xs off ad n c ∧ ∃ k, w' = w.drewN k := by
  have hc0 := cell0 h.blk
  have hc1 := cell1 h.blk
  have hle := h.le
  have hlen := h.len
  go_enter Try.func33, Try.ntmps33
  go_wp2_with fail
  refine (left_any _ _ _ _ _ _ h).mono ?_
  rintro e w2 ⟨rfl, k, rfl⟩
  clear h
  go_wp2
  go_quiet (fail)
  all_goals go_wp2
  · have hx : xs.length = off := by assumption
    obtain rfl : n = 0 := by omega
    go_ret2
    exact ⟨_, _, rfl, fun w _ => by simpa using row8_zero w _ _, _, rfl⟩
  · go_ret2
    exact ⟨_, _, rfl, fun w hw => row8_mid hw off n _ hb, _, rfl⟩

/-- The reader behind a store of its place. -/
theorem Rd.set {B : Nat} {w w' : World} {a g off off' : Nat} {xs : List Int} (h : Rd B w a g xs off) (hw : w'.heap = w.heap) (hle : off' ≤ xs.length) (n : Int) (hn : n = (off' : Int)) : Rd B (w'.setCell ⟨a, 0, none⟩ (.int .i64 n)) a g xs off' := by
  have hb : w'.heap[a]? = some (.cells #[.int .i64 off, .slice (some ⟨g, 0, none⟩) xs.length xs.length] 73 (0, 0)) := by rw [hw]; exact h.blk
  refine ⟨h.loA, h.loG, ?_, ?_, hle, h.len⟩
  · rw [blk_set0 hb, hn]
  · rw [Below.heap_setCell _ _ _ _ (by exact h.ne), hw]; exact h.row

theorem chg_set {w w' : World} {a : Nat} (hc : Chg (fun k => k = a) w w') (u : Value) : Chg (fun k => k = a) w (w'.setCell ⟨a, 0, none⟩ u) := hc.setCell (p := ⟨a, 0, none⟩) (.inl rfl) u

set_option maxHeartbeats 800000 in
theorem next_neg (B a g off : Nat) (xs : List Int) (n : Int) (w : World) (h : Rd B w a g xs off) (hn : n < 0) :
    Calls Try.prog 32 #[.pointer (some ⟨a, 0, none⟩), .int .i64 n] w fun e w' => e = .returned (.tuple #[.slice none 0 0, .int .i64 7]) ∧ Rd B w' a g xs off ∧ Chg (fun k => k = a) w w' := by
  have hc0 := cell0 h.blk
  have hf0 := free0 h.blk
  have hle := h.le
  have hlen := h.len
  go_enter Try.func32, Try.ntmps32
  go_wp2_with fail
  refine (peek_neg _ _ _ hn).mono ?_
  rintro e w2 ⟨rfl, rfl⟩
  go_wp2_with fail
  refine (pass_any a off 0 _ hc0 hf0 (by omega) (by omega) (by omega)).mono ?_
  rintro e w2 ⟨rfl, rfl⟩
  have HR : Hid (Rd B (w.setCell ⟨a, 0, none⟩ (.int .i64 ((off : Int) + 0))) a g xs off) := h.set rfl hle _ (by omega)
  have HC : Hid (Chg (fun k => k = a) w (w.setCell ⟨a, 0, none⟩ (.int .i64 ((off : Int) + 0)))) := chg_set (Chg.refl _ _) _
  clear h hc0 hf0
  go_wp2
  go_ret2
  exact ⟨rfl, HR.out, HC.out⟩

set_option maxHeartbeats 800000 in
theorem next_big (B a g off : Nat) (xs : List Int) (n : Int) (w : World) (h : Rd B w a g xs off) (hn : 0 ≤ n) (hb : (xs.length : Int) - off < n) :
    Calls Try.prog 32 #[.pointer (some ⟨a, 0, none⟩), .int .i64 n] w fun e w' => e = .returned (.tuple #[.slice none 0 0, .int .i64 1]) ∧ Rd B w' a g xs off ∧ Chg (fun k => k = a) w w' := by
  have hc0 : ∀ k, (w.drewN k).cell? ⟨a, 0, none⟩ = some (.int .i64 off) := fun k => cell0 h.blk
  have hf0 : ∀ k, (w.drewN k).frozen? ⟨a, 0, none⟩ = false := fun k => free0 h.blk
  have hle := h.le
  have hlen := h.len
  go_enter Try.func32, Try.ntmps32
  go_wp2_with fail
  refine (peek_big _ _ _ _ _ _ _ h hn hb).mono ?_
  rintro e w2 ⟨rfl, k, rfl⟩
  go_wp2_with fail
  refine (pass_any a off 0 _ (hc0 k) (hf0 k) (by omega) (by omega) (by omega)).mono ?_
  rintro e w2 ⟨rfl, rfl⟩
  have HR : Hid (Rd B ((w.drewN k).setCell ⟨a, 0, none⟩ (.int .i64 ((off : Int) + 0))) a g xs off) := h.set (w' := w.drewN k) rfl hle _ (by omega)
  have HC : Hid (Chg (fun k => k = a) w ((w.drewN k).setCell ⟨a, 0, none⟩ (.int .i64 ((off : Int) + 0)))) := chg_set (chg_drewN _ _) _
  clear h hc0 hf0
  go_wp2
  go_ret2
  exact ⟨rfl, HR.out, HC.out⟩

set_option maxHeartbeats 800000 in
theorem next_ok (B a g off : Nat) (xs : List Int) (n : Nat) (w : World) (h : Rd B w a g xs off) (hb : off + n ≤ xs.length) :
    Calls Try.prog 32 #[.pointer (some ⟨a, 0, none⟩), .int .i64 n] w fun e w' => ∃ ad c, e = .returned (.tuple #[.slice ad n c, .int .i64 0]) ∧ Seg g xs off ad n c ∧ Rd B w' a g xs (off + n) ∧ Chg (fun k => k = a) w w' := by
  have hc0 : ∀ k, (w.drewN k).cell? ⟨a, 0, none⟩ = some (.int .i64 off) := fun k => cell0 h.blk
  have hf0 : ∀ k, (w.drewN k).frozen? ⟨a, 0, none⟩ = false := fun k => free0 h.blk
  have hle := h.le
  have hlen := h.len
  go_enter Try.func32, Try.ntmps32
  go_wp2_with fail
  refine (peek_ok _ _ _ _ _ _ _ h hb).mono ?_
  rintro e w2 ⟨ad, c, rfl, hr, k, rfl⟩
  go_wp2_with fail
  refine (pass_any a off n _ (hc0 k) (hf0 k) (by omega) (by omega) (by omega)).mono ?_
  rintro e w2 ⟨rfl, rfl⟩
  have HR : Hid (Rd B ((w.drewN k).setCell ⟨a, 0, none⟩ (.int .i64 ((off : Int) + (n : Int)))) a g xs (off + n)) := h.set (w' := w.drewN k) rfl hb _ (by omega)
  have HC : Hid (Chg (fun k => k = a) w ((w.drewN k).setCell ⟨a, 0, none⟩ (.int .i64 ((off : Int) + (n : Int))))) := chg_set (chg_drewN _ _) _
  clear h hc0 hf0
  go_wp2
  go_ret2
  exact ⟨_, _, rfl, hr, HR.out, HC.out⟩

/-- What a call on a reader may have turned: its own block; all else is as it was. -/
theorem Rd.chg {B : Nat} {w w' : World} {a g off : Nat} {xs : List Int} (h : Rd B w a g xs off) (hc : Chg (fun _ => False) w w') : Rd B w' a g xs off := h.keep hc (fun f => f) (fun f => f)
theorem chg_none {S : Nat → Prop} {w w' : World} (hc : Chg (fun _ => False) w w') : Chg S w w' := hc.mono (fun _ f => f.elim)
theorem chg_then {S : Nat → Prop} {w w1 w2 : World} (hc : Chg S w w1) (hd : Chg (fun _ => False) w1 w2) : Chg S w w2 := hc.trans hd (fun _ f => f.elim)

set_option maxHeartbeats 800000 in
theorem take_neg (B a g off : Nat) (xs : List Int) (n : Int) (w : World) (h : Rd B w a g xs off) (hn : n < 0) :
    Calls Try.prog 11 #[.pointer (some ⟨a, 0, none⟩), .int .i64 n] w fun e w' => e = .returned (.tuple #[.slice none 0 0, .int .i64 7]) ∧ Rd B w' a g xs off ∧ Chg (fun k => k = a) w w' := by
  go_enter Try.func11, Try.ntmps11
  go_wp2_with fail
  refine (next_neg _ _ _ _ _ _ _ h hn).mono ?_
  rintro e w2 ⟨rfl, hr, hc⟩
  clear h
  go_wp2
  go_ret2
  exact ⟨rfl, hr, hc⟩

set_option maxHeartbeats 800000 in
theorem take_big (B a g off : Nat) (xs : List Int) (n : Int) (w : World) (h : Rd B w a g xs off) (hn : 0 ≤ n) (hb : (xs.length : Int) - off < n) :
    Calls Try.prog 11 #[.pointer (some ⟨a, 0, none⟩), .int .i64 n] w fun e w' => e = .returned (.tuple #[.slice none 0 0, .int .i64 1]) ∧ Rd B w' a g xs off ∧ Chg (fun k => k = a) w w' := by
  go_enter Try.func11, Try.ntmps11
  go_wp2_with fail
  refine (next_big _ _ _ _ _ _ _ h hn hb).mono ?_
  rintro e w2 ⟨rfl, hr, hc⟩
  clear h
  go_wp2
  go_ret2
  exact ⟨rfl, hr, hc⟩

set_option maxHeartbeats 800000 in
theorem take_ok (B a g off : Nat) (xs : List Int) (n : Nat) (w : World) (h : Rd B w a g xs off) (hb : off + n ≤ xs.length) :
    Calls Try.prog 11 #[.pointer (some ⟨a, 0, none⟩), .int .i64 n] w fun e w' => ∃ q, e = .returned (.tuple #[.slice (some ⟨q, 0, none⟩) n n, .int .i64 0]) ∧ w.heap.size ≤ q ∧ w'.heap[q]? = some (.cells (cells8 ((xs.drop off).take n)).toArray 5 (0, 0)) ∧ Rd B w' a g xs (off + n) ∧ Chg (fun k => k = a) w w' := by
  have hlen := h.len
  go_enter Try.func11, Try.ntmps11
  go_wp2_with fail
  refine (next_ok _ _ _ _ _ _ _ h hb).mono ?_
  rintro e w2 ⟨ad, c, rfl, hs, hr, hc⟩
  clear h
  go_wp2_with fail
  refine (fresh_any _ _ _ _ _ (hs _ hr.row) (by omega)).mono ?_
  rintro e w3 ⟨rfl, h3, hc3⟩
  have hr3 := hr.chg hc3
  have hc' := chg_then hc hc3
  have HB : Hid (w3.heap[w2.heap.size]? = some (.cells (cells8 ((xs.drop off).take n)).toArray 5 (0, 0))) := h3
  have hsz : w.heap.size ≤ w2.heap.size := hc.size
  clear h3 hs hr hc hc3
  go_wp2
  go_ret2
  exact ⟨_, rfl, hsz, HB.out, hr3, hc'⟩

end Go.Proofs.Ytgfibbabfpphpaa
