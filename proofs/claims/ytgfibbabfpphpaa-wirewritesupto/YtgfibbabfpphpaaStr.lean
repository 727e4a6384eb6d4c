/- Small laws on strings made of bytes, and on a list of bytes that came in, of no statement by themselves. -/
import Derived.Test.YtgfibbabfpphpaaWidth
import Derived.Laws.BytesArg
namespace Go.Proofs.Ytgfibbabfpphpaa
open Go.RowKit

/-- 'string(b)' of a list of bytes, in every later draw. -/
theorem conv8 {w : World} {ad : Option Addr} {m c : Nat} {xs : List Int} (h : Row8 w ad m c xs) (k : Nat) :
    (convert 22 9 (.slice ad m c)).run Try.prog (w.drewN k) = .ok (.string (strOfNums xs)) (w.drewN k) := by
  rcases h.2 with ⟨rfl, rfl, rfl⟩ | ⟨x, rfl, hx⟩
  · have e : xs = [] := List.eq_nil_of_length_eq_zero h.1
    subst e
    exact run_convert_bytes_nil (P := Try.prog) (w.drewN k) 22 5 Try.underlying22 Try.underlying5 0 0 9 Try.underlying9
  · have hl : (loadCells x m).run Try.prog (w.drewN k) = .ok (xs.map (Value.int .u8)).toArray (w.drewN k) := by
      have := run_loadCells_list (P := Try.prog) (w.drewN k) x (xs.map (Value.int .u8)) hx
      simpa [h.1] using this
    rw [run_convert_bytes_string (w.drewN k) 22 9 5 _ m c Try.underlying22 Try.underlying5 Try.underlying9, run_bytesToString (w.drewN k) _ m c xs hl, foldl_push_bytes]
    simp [strOfNums, ByteArray.empty, ByteArray.emptyWithCapacity]
    rfl

theorem conv8_here {w : World} {ad : Option Addr} {m c : Nat} {xs : List Int} (h : Row8 w ad m c xs) :
    (convert 22 9 (.slice ad m c)).run Try.prog w = .ok (.string (strOfNums xs)) w := conv8 h 0

theorem own_empty (w : World) : (w.alloc (.cells #[] 5)).ownsRow w.heap.size 5 1 (.slice (some ⟨w.heap.size, 0, none⟩) 0 0) 0 ([] : List Value) :=
  World.ownsRow_made w #[] 0 (Nat.le_refl _) (Nat.zero_le _) rfl

theorem row8_alloc {w : World} {ad : Option Addr} {m c : Nat} {xs : List Int} (h : Row8 w ad m c xs) (o : Obj) : Row8 (w.alloc o) ad m c xs :=
  row8_keep h (chg_one (fun _ => False) w o) (fun _ _ f => f)

theorem row8_chg {w w' : World} {ad : Option Addr} {m c : Nat} {xs : List Int} (h : Row8 w ad m c xs) (hc : Chg (fun _ => False) w w') : Row8 w' ad m c xs :=
  row8_keep h hc (fun _ _ f => f)

/-- Behind 'append([]byte{}, b...)' nothing that was there has turned. -/
theorem chg_empty {w w1 : World} (hg : (w.alloc (.cells #[] 5)).grownBy w1 (Value.slice (some ⟨w.heap.size, 0, none⟩) 0 0).ownBlock) : Chg (fun _ => False) w w1 :=
  ((Chg.refl (fun _ => False) w).alloc _).grown hg (fun k e => .inr (by simp [Value.ownBlock] at e; omega))

theorem left_i (B a g off : Nat) (xs : List Int) (n : Int) (w : World) (h : Rd B w a g xs off) (hn : (xs.length : Int) - (off : Int) = n) :
    Calls Try.prog 10 #[.pointer (some ⟨a, 0, none⟩)] w fun e w' => e = .returned (.int .i64 n) ∧ ∃ k, w' = w.drewN k := by
  subst hn
  exact left_any B a g off xs w h

theorem off_i (B a g off : Nat) (xs : List Int) (n : Int) (w : World) (h : Rd B w a g xs off) (hn : (off : Int) = n) :
    Calls Try.prog 13 #[.pointer (some ⟨a, 0, none⟩)] w fun e w' => e = .returned (.int .i64 n) ∧ w = w' := by
  subst hn
  exact off_any B a g off xs w h

theorem take_i (B a g off : Nat) (xs : List Int) (n : Int) (w : World) (h : Rd B w a g xs off) (h0 : 0 ≤ n) (hb : (off : Int) + n ≤ xs.length) :
    Calls Try.prog 11 #[.pointer (some ⟨a, 0, none⟩), .int .i64 n] w fun e w' => ∃ q, e = .returned (.tuple #[.slice (some ⟨q, 0, none⟩) n.toNat n.toNat, .int .i64 0]) ∧ w.heap.size ≤ q ∧ w'.heap[q]? = some (.cells (cells8 ((xs.drop off).take n.toNat)).toArray 5 (0, 0)) ∧ Rd B w' a g xs (off + n.toNat) ∧ Chg (fun k => k = a) w w' := by
  obtain ⟨k, rfl⟩ := Int.eq_ofNat_of_zero_le h0
  rw [Int.toNat_natCast]
  exact take_ok B a g off xs k w h (by omega)

theorem Rd.draw {B : Nat} {w : World} {a g off : Nat} {xs : List Int} (h : Rd B w a g xs off) (k : Nat) : Rd B (w.drewN k) a g xs off := h.chg (chg_drewN w k)

theorem addr_add (x : Addr) (i j : Nat) : (x.add i).add j = x.add (i + j) := by
  unfold Addr.add
  by_cases hi : i = 0 <;> by_cases hj : j = 0 <;> simp [hi, hj, Nat.add_assoc]

/-- A part of a list of bytes, as Go cuts it. -/
theorem row8_cut {w : World} {ad : Option Addr} {m c : Nat} {xs : List Int} (h : Row8 w ad m c xs) (hmc : m ≤ c) (lo n c' : Nat) (hn : lo + n ≤ m) (hc' : c = 0 → c' = 0) :
    Row8 w (if c = lo then ad else ad.map (·.add lo)) n c' ((xs.drop lo).take n) := by
  have hl := h.1
  refine ⟨by simp; omega, ?_⟩
  rcases h.2 with ⟨rfl, rfl, rfl⟩ | ⟨x, rfl, hx⟩
  · refine .inl ⟨by simp, by omega, hc' rfl⟩
  · by_cases e : c = lo
    · rw [if_pos e]
      have hn0 : n = 0 := by omega
      subst hn0
      exact .inr ⟨x, rfl, fun j u hu => by simp at hu⟩
    · rw [if_neg e]
      refine .inr ⟨_, rfl, fun j u hu => ?_⟩
      rw [List.map_take, List.map_drop, List.getElem?_take] at hu
      split at hu
      · rw [List.getElem?_drop] at hu
        have := hx (lo + j) u hu
        rw [addr_add]
        exact this
      · cases hu

theorem addr_add0 (x : Addr) : x.add 0 = x := by simp [Addr.add]

theorem run_size5 (w : World) : (sizeOf (Try.prog.elem 22)).run Try.prog w = .ok 1 w := by kernel_rfl

/-- 'b[:r]' of a list of bytes, whatever its address. -/
theorem slice_to (a : Option Addr) (len cap r : Nat) (h : r ≤ cap) (w : World) :
    (Instr.slice 22 (.slice a len cap) none (some (.int .i64 (r : Int))) none).run Try.prog w = .ok (.slice a r cap) w := by
  rw [run_slice_h (P := Try.prog) w 22 a len cap (by kernel_rfl) .i64 r (by omega) (by omega), run_size5]
  simp only [Result.andThen, sliced, Int.toNat_natCast, Nat.zero_mul, Nat.sub_zero]
  congr 2
  split
  · rfl
  · cases a <;> simp [addr_add0]

/-- 'b[lo:lo+n]' of a list of bytes, whatever its address. -/
theorem slice_mid (a : Option Addr) (len cap lo n : Nat) (h : lo + n ≤ cap) (w : World) :
    (Instr.slice 22 (.slice a len cap) (some (.int .i64 (lo : Int))) (some (.int .i64 ((lo : Int) + (n : Int)))) none).run Try.prog w = .ok (.slice (if cap = lo then a else a.map (·.add lo)) n (cap - lo)) w := by
  rw [run_slice_lh (P := Try.prog) w 22 a len cap (by kernel_rfl) .i64 .i64 lo _ (by omega) (by omega) (by omega), run_size5]
  simp only [Result.andThen, sliced, Int.toNat_natCast, Nat.mul_one]
  have e : ((lo : Int) + (n : Int)).toNat - lo = n := by omega
  rw [e]

theorem row8_take {w : World} {ad : Option Addr} {m c : Nat} {xs : List Int} (h : Row8 w ad m c xs) (r : Nat) (hr : r ≤ m) : Row8 w ad r c (xs.take r) := by
  have hl := h.1
  refine ⟨by simp; omega, ?_⟩
  rcases h.2 with ⟨rfl, rfl, rfl⟩ | ⟨x, rfl, hx⟩
  · exact .inl ⟨rfl, by omega, rfl⟩
  · refine .inr ⟨x, rfl, fun j u hu => hx j u ?_⟩
    rw [List.map_take, List.getElem?_take] at hu
    split at hu
    · exact hu
    · cases hu

/-- A list that came in lies in blocks that were there, if it has a byte; so no new block is one of its own. -/
theorem row8_old {w w' : World} {S : Nat → Prop} {ad : Option Addr} {m c : Nat} {xs : List Int} (h : Row8 w ad m c xs) (hc : Chg S w w') (hS : ∀ k, k < w.heap.size → ¬ S k) : Row8 w' ad m c xs := by
  refine ⟨h.1, ?_⟩
  rcases h.2 with e | ⟨x, rfl, hx⟩
  · exact .inl e
  · refine .inr ⟨x, rfl, fun j u hu => ?_⟩
    have h0 := hx j u hu
    have hlt := World.block_lt_of_cell? w _ h0
    rw [World.cell?_of_block (w := w) (hc.block _ hlt (hS _ hlt))]
    exact h0

end Go.Proofs.Ytgfibbabfpphpaa
