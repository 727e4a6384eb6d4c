/- Lists of bytes put one behind the other, and the lowest bytes of a number: the contracts of joined and low; of no statement by themselves. -/
import Derived.Test.YtmgjbkgooekihaaDoorLaid
import Derived.Deep.OwnRows
namespace Go.Proofs.YtmgjbkgooekihaaDoor
open Go.RowKit

theorem info5 : (Tryd.prog.info? 5).map (fun i => (i.zero, i.size, i.bytes)) = some (some (.int .u8 0), 1, 1) := by kernel_rfl

/-- Bytes as cells. -/
def cells8 (xs : List Int) : List Value := xs.map (Value.int .u8)

theorem cells8_append (xs ys : List Int) : cells8 xs ++ cells8 ys = cells8 (xs ++ ys) := by simp [cells8]

theorem oneCells (l : List Int) : ∀ u ∈ cells8 l, u.oneCell' = true := by
  intro u hu
  obtain ⟨x, _, rfl⟩ := List.mem_map.1 hu
  rfl

theorem own_empty (w : World) : (w.alloc (.cells #[] 5)).ownsRow w.heap.size 5 1 (.slice (some ⟨w.heap.size, 0, none⟩) 0 0) 0 (cells8 []) := by
  refine ⟨rfl, .inr ⟨w.heap.size, 0, #[], rfl, Nat.le_refl _, heap_alloc_last w _, Nat.le_refl _, by unfold maxLen; omega, rfl, rfl⟩⟩

theorem own_row8c {w : World} {B : Nat} {v : Value} {n : Nat} {bs : List Int} (h : w.ownsRow B 5 1 v n (cells8 bs)) : ∃ ad c, v = .slice ad n c ∧ Row8 w ad n c bs ∧ n ≤ c := by
  have hl : bs.length = n := by simpa [cells8] using h.1
  rcases h.2 with ⟨rfl, rfl⟩ | ⟨g, cap, cur, rfl, _, _, hnc, _⟩
  · exact ⟨none, 0, rfl, ⟨hl, .inl ⟨rfl, rfl, rfl⟩⟩, Nat.le_refl _⟩
  · exact ⟨_, cap, rfl, ⟨hl, .inr ⟨_, rfl, fun j u hu => h.cells (g := g) rfl j u hu⟩⟩, hnc⟩

theorem row8_one (w : World) (x : Int) (t : TypeId) : Row8 (w.alloc (.cells #[.int .u8 x] t)) (some ⟨w.heap.size, 0, none⟩) 1 1 [x] := row8_new w [x] t (0, 0) 1 1 rfl

set_option maxHeartbeats 1000000 in
theorem joined_any (a b : Option Addr) (m c l d : Nat) (xs ys : List Nat) (w : World) (hx : Row8 w a m c (up xs)) (hy : Row8 w b l d (up ys)) (hl : m + l ≤ 140737488355328) :
    Calls Tryd.prog 15 #[.slice a m c, .slice b l d] w fun e w' => ∃ ad k, e = .returned (.slice ad (m + l) k) ∧ Row8 w' ad (m + l) k (up (xs ++ ys)) ∧ Chg (fun _ => False) w w' := by
  obtain ⟨i0, hi, hz0, hz1, hz2⟩ := info_parts info5
  have h0 := own_empty w
  have hc0 := chg_one w (.cells #[] 5)
  have hx0 := row8_chg hx hc0
  clear hx
  go_enter Tryd.func15, Tryd.ntmps15
  go_wp2_with (at_builtin; refine wpList_append_moved rfl _ _ 22 rfl w.heap.size 5 i0 (.int .u8 0) 1 1 Tryd.underlying22 hi hz0 hz1 hz2 rfl (by decide) _ 0 (cells8 []) rfl a m c rfl (cells8 (up xs)) h0 hx0.src (oneCells (up xs)) (by unfold maxLen; omega) (by omega) hc0.size ?_)
  intro v1 w1 ho1 hg1 _
  have hc1 : Chg (fun _ => False) w w1 := hc0.grown hg1 (fun k e => .inr ((h0.lt k e).1))
  have hy1 := row8_chg hy hc1
  rw [cells8_append, List.nil_append] at ho1
  clear hg1 h0 hc0 hx0 hy
  go_wp2_with (at_builtin; refine wpList_append_moved rfl _ _ 22 rfl w.heap.size 5 i0 (.int .u8 0) 1 1 Tryd.underlying22 hi hz0 hz1 hz2 rfl (by decide) _ m (cells8 (up xs)) rfl b l d rfl (cells8 (up ys)) ho1 hy1.src (oneCells (up ys)) (by unfold maxLen; omega) (by omega) hc1.size ?_)
  intro v2 w2 ho2 hg2 _
  have hc2 : Chg (fun _ => False) w w2 := hc1.grown hg2 (fun k e => .inr ((ho1.lt k e).1))
  rw [cells8_append, ← up_append] at ho2
  obtain ⟨ad, k, rfl, hr, -⟩ := own_row8c ho2
  have HR : Hid (Row8 w2 ad (m + l) k (up (xs ++ ys))) := hr
  clear hr ho2 hg2 ho1 hy1 hc1
  go_wp2
  go_ret
  exact ⟨ad, k, rfl, HR.out, hc2⟩

/-- A list of zeros that was just made. -/
theorem make8 (n : Nat) (hn : n ≤ 140737488355328) (w : World) :
    (Instr.makeSlice 22 (.int .i64 (n : Int)) (.int .i64 (n : Int))).run Tryd.prog w = .ok (.slice (some ⟨w.heap.size, 0, none⟩) n n) (w.alloc (.cells (cells8 (up (List.replicate n 0))).toArray 5)) := by
  have h := run_make_row' (P := Tryd.prog) 22 5 (.int .u8 0) 1 Tryd.underlying22 info5 rfl .i64 .i64 n (by omega) (by omega) w
  rw [h]
  have e : madeCells #[Value.int .u8 0] n = (cells8 (up (List.replicate n 0))).toArray := by
    apply Array.toList_inj.1
    rw [toList_madeCells_one]
    simp [cells8, up]
  rw [e]

/-- The byte number i of a number. -/
theorem low_snoc (v : Nat) : ∀ k, Crc.low v (k + 1) = Crc.low v k ++ [v / 256 ^ k % 256]
  | 0 => by simp [Crc.low]
  | k + 1 => by
    have ih := low_snoc (v / 256) k
    rw [Crc.low, ih, Crc.low, Nat.div_div_eq_div_mul, ← Nat.pow_succ']
    rfl

theorem low_length (v : Nat) : ∀ k, (Crc.low v k).length = k
  | 0 => rfl
  | k + 1 => by rw [Crc.low, List.length_cons, low_length _ k]

theorem low_byt (v : Nat) : ∀ k, Byt (Crc.low v k)
  | 0 => Byt.nil
  | k + 1 => fun x hx => by
    rcases List.mem_cons.1 hx with e | e
    · omega
    · exact low_byt _ k x e

set_option maxHeartbeats 1000000 in
theorem low_any (v n : Nat) (w : World) (hn : n ≤ 8) :
    Calls Tryd.prog 16 #[.int .u64 v, .int .i64 n] w fun e w' => ∃ ad k, e = .returned (.slice ad n k) ∧ Row8 w' ad n k (up (Crc.low v n)) ∧ Chg (fun _ => False) w w' := by
  obtain ⟨i0, hi, hz0, hz1, hz2⟩ := info_parts info5
  go_enter Tryd.func16, Tryd.ntmps16
  go_wp2
  go_loopw [5, 6] (fun b j wr => ∃ k : Nat, k ≤ n ∧ j = .int .i64 k ∧ wr.ownsRow w.heap.size 5 1 b k (cells8 (up (Crc.low v k))) ∧ Chg (fun _ => False) w wr) (fun _ j _ => n - (intOf j).toNat)
  case atStart => exact ⟨0, by omega, rfl, World.ownsRow_nil _ _ _ _, Chg.refl _ _⟩
  case round =>
    obtain ⟨k, hk, rfl, hown, hc⟩ := hrel
    have hBr : w.heap.size ≤ wr.heap.size := hc.size
    obtain ⟨ba, bc, rfl, hrow, -⟩ := own_row8c hown
    by_cases hlt : k < n
    · obtain ⟨y, hy⟩ : ∃ y : Nat, v / 256 ^ k % 256 = y := ⟨_, rfl⟩
      have hsh : IntKind.u8.wrap ((v : Int) / 2 ^ (8 * k)) = (y : Int) := by
        have e1 : ((2 : Int) ^ (8 * k)) = ((256 ^ k : Nat) : Int) := by rw [Int.pow_mul]; simp
        have e2 : IntKind.u8.wrap ((v : Int) / 2 ^ (8 * k)) = (v : Int) / 2 ^ (8 * k) % 256 := by simp [IntKind.wrap, IntKind.signed, IntKind.bits]
        rw [e2, e1, ← hy]
        simp
      have HY : Hid (Crc.low v (k + 1) = Crc.low v k ++ [y]) := by
        show _ = _
        rw [low_snoc, hy]
      clear hrow hy
      go_wp2_with (at_builtin; refine wpList_append_moved rfl _ _ 22 rfl w.heap.size 5 i0 (.int .u8 0) 1 1 Tryd.underlying22 hi hz0 hz1 hz2 rfl (by decide) _ k (cells8 (up (Crc.low v k))) rfl (some ⟨wr.heap.size, 0, none⟩) 1 1 rfl [.int .u8 (y : Int)] (hown.alloc _) (row8_one wr (y : Int) 5).src (oneCells [(y : Int)]) (by unfold maxLen; omega) (by omega) (by simp; omega) ?_)
      intro v1 w1 hown1 hg1 _
      have hc1 : Chg (fun _ => False) w w1 := (hc.alloc _).grown hg1 (fun j e => .inr ((hown.lt j e).1))
      have HO : Hid (w1.ownsRow w.heap.size 5 1 v1 (k + 1) (cells8 (up (Crc.low v (k + 1))))) := by
        show w1.ownsRow _ _ _ _ _ _
        rw [HY.out, up_append]
        simpa [cells8, up] using hown1
      clear hown1 hg1 hown
      go_wp2
      go_roundw
      case rel => exact ⟨k + 1, by omega, by go_num, HO.out, hc1⟩
      case measure => simp [intOf]; omega
    · obtain rfl : k = n := by omega
      have HO : Hid (Row8 wr ba k bc (up (Crc.low v k))) := hrow
      clear hown hrow
      go_wp2
      go_ret
      exact ⟨_, _, rfl, HO.out, hc⟩
end Go.Proofs.YtmgjbkgooekihaaDoor
