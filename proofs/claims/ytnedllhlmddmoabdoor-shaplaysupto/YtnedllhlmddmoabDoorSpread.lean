/- A block's sixteen words and those that come of them: the contract of spread; of no statement by itself. -/
import Derived.Test.YtnedllhlmddmoabDoorTab
namespace Go.Proofs.YtnedllhlmddmoabDoor
open Go.RowKit

theorem infoA64 : (Tryd.prog.info? 70).map (·.size) = some 64 := by kernel_rfl
theorem infoB64 : (Tryd.prog.info? 54).map (·.size) = some 64 := by kernel_rfl
theorem infoA8 : (Tryd.prog.info? 45).map (·.size) = some 8 := by kernel_rfl
theorem infoB32 : (Tryd.prog.info? 27).map (·.size) = some 32 := by kernel_rfl

/-- The first words, zeros behind them. -/
def fill (l : List Nat) (n : Nat) : List Nat := l ++ List.replicate (n - l.length) 0

theorem fill_len (l : List Nat) (n : Nat) (h : l.length ≤ n) : (fill l n).length = n := by simp [fill]; omega
theorem fill_at (l : List Nat) (n k : Nat) (h : k < l.length) : (fill l n).getD k 0 = l.getD k 0 := by
  simp [fill, List.getElem?_append_left h]
theorem fill_set (l : List Nat) (n x : Nat) (h : l.length < n) : (fill l n).set l.length x = fill (l ++ [x]) n := by
  unfold fill
  rw [show n - l.length = (n - (l ++ [x]).length) + 1 by simp; omega, List.replicate_succ, List.set_append]
  simp
theorem fill_full (l : List Nat) : fill l l.length = l := by simp [fill]

theorem or_wd (a b c d : Nat) (hb : b < 256) (hc : c < 256) (hd : d < 256) : ((a * 16777216 ||| b * 65536) ||| c * 256) ||| d = ((a * 256 + b) * 256 + c) * 256 + d := by
  have h1 : a * 16777216 ||| b * 65536 = a * 16777216 + b * 65536 := by
    have := Nat.two_pow_add_eq_or_of_lt (i := 24) (b := b * 65536) (by omega) a
    rw [Nat.mul_comm a]; exact this.symm
  have h2 : (a * 16777216 + b * 65536) ||| c * 256 = (a * 16777216 + b * 65536) + c * 256 := by
    have := Nat.two_pow_add_eq_or_of_lt (i := 16) (b := c * 256) (by omega) (a * 256 + b)
    have e : 2 ^ 16 * (a * 256 + b) = a * 16777216 + b * 65536 := by omega
    rw [e] at this; exact this.symm
  have h3 : (a * 16777216 + b * 65536 + c * 256) ||| d = (a * 16777216 + b * 65536 + c * 256) + d := by
    have := Nat.two_pow_add_eq_or_of_lt (i := 8) (b := d) (by omega) (a * 65536 + b * 256 + c)
    have e : 2 ^ 8 * (a * 65536 + b * 256 + c) = a * 16777216 + b * 65536 + c * 256 := by omega
    rw [e] at this; exact this.symm
  rw [h1, h2, h3]
  omega

theorem or_wd32 (a b c d : Nat) (ha : a < 256) (hb : b < 256) (hc : c < 256) (hd : d < 256) :
    bits .or .u32 (bits .or .u32 (bits .or .u32 ((a : Int) * 16777216) ((b : Int) * 65536)) ((c : Int) * 256)) (d : Int) = ((((a * 256 + b) * 256 + c) * 256 + d : Nat) : Int) := by
  have e0 : ((a : Int) * 16777216) = ((a * 16777216 : Nat) : Int) := by omega
  have e1 : ((b : Int) * 65536) = ((b * 65536 : Nat) : Int) := by omega
  have e2 : ((c : Int) * 256) = ((c * 256 : Nat) : Int) := by omega
  have l1 : a * 16777216 ||| b * 65536 < 4294967296 := Sha.or_lt (by omega) (by omega)
  rw [e0, e1, e2, or32 _ _ (by omega) (by omega), or32 _ _ l1 (by omega), or32 _ _ (Sha.or_lt l1 (by omega)) (by omega), or_wd a b c d hb hc hd]

/-- What the walk keeps of the two loops. -/
structure Spr (w wr : World) (b l : List Nat) : Prop where
  h0 : wr.heap[w.heap.size]? = some (.cells (byts b).toArray 54 (0, 0))
  h1 : wr.heap[w.heap.size + 1]? = some (.cells (wds (fill [] 64)).toArray 70 (0, 0))
  h2 : wr.heap[w.heap.size + 1 + 1]? = some (.cells (wds (fill l 64)).toArray 70 (0, 0))
  c : Chg (fun _ => False) w wr

theorem Spr.set {w wr : World} {b l : List Nat} (h : Spr w wr b l) (x : Nat) (hl : l.length < 64) : Spr w ((wr.setCell ⟨w.heap.size + 1 + 1, l.length, none⟩ (.int .u32 (x : Nat))).drew) b (l ++ [x]) := by
  refine ⟨?_, ?_, ?_, (h.c.setCell (.inr (by show w.heap.size ≤ w.heap.size + 1 + 1; omega)) _).drew⟩
  · show (wr.setCell _ _).heap[_]? = _
    rw [Below.heap_setCell _ _ _ _ (by simp; omega), h.h0]
  · show (wr.setCell _ _).heap[_]? = _
    rw [Below.heap_setCell _ _ _ _ (by simp), h.h1]
  · show (wr.setCell _ _).heap[_]? = _
    rw [blk_setk h.h2, wds_set, fill_set _ _ _ hl]

theorem spr_start (w : World) (b : List Nat) (o : Array Value) (ho : o = (wds (fill [] 64)).toArray) : Spr w (((w.alloc (.cells (byts b).toArray 54)).alloc (.cells o 70)).alloc (.cells o 70)) b [] := by
  subst ho
  refine ⟨?_, ?_, ?_, (((Chg.refl _ w).alloc _).alloc _).alloc _⟩
  · rw [Below.heap_alloc _ _ _ (by simp; omega), Below.heap_alloc _ _ _ (by simp), heap_alloc_last]
  · rw [Below.heap_alloc _ _ _ (by simp), show w.heap.size + 1 = (w.alloc (.cells (byts b).toArray 54)).heap.size by simp, heap_alloc_last]
  · rw [show w.heap.size + 1 + 1 = ((w.alloc (.cells (byts b).toArray 54)).alloc (.cells (wds (fill [] 64)).toArray 70)).heap.size by simp, heap_alloc_last]

set_option maxHeartbeats 4000000 in
theorem spread_any (b : List Nat) (w : World) (hl : b.length = 64) (hb : ∀ x ∈ b, x < 256) :
    Calls Tryd.prog 30 #[.agg (byts b).toArray] w fun e w' => e = .returned (.agg (wds (Sha.sched b 48)).toArray) ∧ Chg (fun _ => False) w w' := by
  go_enter Tryd.func30, Tryd.ntmps30
  go_wp2_with fail
  go_loopw [10] (fun i wr => ∃ k : Nat, k ≤ 16 ∧ i = .int .i64 k ∧ Spr w wr b (Sha.first b k)) (fun i _ => 16 - (intOf i).toNat)
  case atStart => exact ⟨0, by omega, rfl, spr_start w b _ rfl⟩
  case round =>
    obtain ⟨k, hk, rfl, hS⟩ := hrel
    by_cases hlt : k < 16
    · have h0 := hS.h0
      have h2 := hS.h2
      have a0 := byts_cell h0 (4 * k) (by omega)
      have a1 := byts_cell h0 (4 * k + 1) (by omega)
      have a2 := byts_cell h0 (4 * k + 2) (by omega)
      have a3 := byts_cell h0 (4 * k + 3) (by omega)
      have l0 := Sha.byte_getD hb (4 * k)
      have l1 := Sha.byte_getD hb (4 * k + 1)
      have l2 := Sha.byte_getD hb (4 * k + 2)
      have l3 := Sha.byte_getD hb (4 * k + 3)
      have hw := or_wd32 _ _ _ _ l0 l1 l2 l3
      rw [show (((b.getD (4 * k) 0 * 256 + b.getD (4 * k + 1) 0) * 256 + b.getD (4 * k + 2) 0) * 256 + b.getD (4 * k + 3) 0) = Sha.wd b k from rfl] at hw
      have c2 := wds_cell h2 k (by rw [fill_len _ _ (by rw [Sha.first_len]; omega)]; omega)
      have f2 : wr.frozen? ⟨w.heap.size + 1 + 1, k, none⟩ = false := by simp [World.frozen?, h2]
      have HS : Hid (Spr w ((wr.setCell ⟨w.heap.size + 1 + 1, k, none⟩ (.int .u32 (Sha.wd b k : Nat))).drew) b (Sha.first b (k + 1))) := by
        show Spr _ _ _ _
        have := hS.set (Sha.wd b k) (by rw [Sha.first_len]; omega)
        rw [Sha.first_len] at this
        rw [Sha.first_succ]
        exact this
      generalize b.getD (4 * k) 0 = x0 at *
      generalize b.getD (4 * k + 1) 0 = x1 at *
      generalize b.getD (4 * k + 2) 0 = x2 at *
      generalize b.getD (4 * k + 3) 0 = x3 at *
      generalize (fill (Sha.first b k) 64).getD k 0 = z at *
      generalize Sha.wd b k = y at *
      clear h0 h2 hS hb hl
      go_wp2_with fail
      go_region
      go_wp2
      go_roundw
      case rel => exact ⟨k + 1, by omega, by go_num, HS.out⟩
      case measure => simp [intOf]; omega
    · have hS0 : Spr w wr b (Sha.sched b 0) := by
        rw [show k = 16 by omega] at hS
        exact hS
      have HB : Hid (∀ x ∈ b, x < 256) := hb
      clear hb hS hl
      go_wp2_with fail
      go_loopw [5] (fun i ws => ∃ k : Nat, k ≤ 48 ∧ i = .int .i64 ((k : Int) + 16) ∧ Spr w ws b (Sha.sched b k)) (fun i _ => 64 - (intOf i).toNat)
      case atStart => exact ⟨0, by omega, rfl, hS0⟩
      case round =>
        clear hS0
        obtain ⟨k, hk2, rfl, hS⟩ := hrel
        by_cases hlt2 : k < 48
        · have h2 := hS.h2
          have hn := Sha.sched_len b k
          have hlen : (fill (Sha.sched b k) 64).length = 64 := fill_len _ _ (by omega)
          have a0 := wds_cell h2 (k + 14) (by omega)
          have a1 := wds_cell h2 (k + 9) (by omega)
          have a2 := wds_cell h2 (k + 1) (by omega)
          have a3 := wds_cell h2 k (by omega)
          have a4 := wds_cell h2 (k + 16) (by omega)
          rw [fill_at _ _ _ (by omega)] at a0 a1 a2 a3
          have hwd := Sha.sched_wds HB.out k
          have l0 := hwd.getD (k + 14)
          have l1 := hwd.getD (k + 9)
          have l2 := hwd.getD (k + 1)
          have l3 := hwd.getD k
          have f2 : wr.frozen? ⟨w.heap.size + 1 + 1, k + 16, none⟩ = false := by simp [World.frozen?, h2]
          have HN : Hid (Sha.nxt (Sha.sched b k) (16 + k) = Sha.add (Sha.add (Sha.add (Sha.sg1 ((Sha.sched b k).getD (k + 14) 0)) ((Sha.sched b k).getD (k + 9) 0)) (Sha.sg0 ((Sha.sched b k).getD (k + 1) 0))) ((Sha.sched b k).getD k 0)) := by
            show _ = _
            unfold Sha.nxt
            rw [show 16 + k - 2 = k + 14 by omega, show 16 + k - 7 = k + 9 by omega, show 16 + k - 15 = k + 1 by omega, show 16 + k - 16 = k by omega]
          have HS : Hid (Spr w ((wr.setCell ⟨w.heap.size + 1 + 1, k + 16, none⟩ (.int .u32 (Sha.nxt (Sha.sched b k) (16 + k) : Nat))).drew) b (Sha.sched b (k + 1))) := by
            show Spr _ _ _ _
            have := hS.set (Sha.nxt (Sha.sched b k) (16 + k)) (by omega)
            rw [hn, Nat.add_comm 16 k] at this
            rw [Nat.add_comm 16 k]
            show Spr _ _ _ (Sha.sched b k ++ [Sha.nxt (Sha.sched b k) (16 + k)])
            rw [Nat.add_comm 16 k]
            exact this
          generalize (fill (Sha.sched b k) 64).getD (k + 16) 0 = z at *
          generalize Sha.nxt (Sha.sched b k) (16 + k) = y at *
          generalize (Sha.sched b k).getD (k + 14) 0 = x0 at *
          generalize (Sha.sched b k).getD (k + 9) 0 = x1 at *
          generalize (Sha.sched b k).getD (k + 1) 0 = x2 at *
          generalize (Sha.sched b k).getD k 0 = x3 at *
          have r0 := Sha.rotr_lt 17 l0
          have r1 := Sha.rotr_lt 19 l0
          have r2 := Sha.rotr_lt 7 l2
          have r3 := Sha.rotr_lt 18 l2
          have HG1 : Hid (Sha.sg1 x0 = Sha.rotr x0 17 ^^^ Sha.rotr x0 19 ^^^ x0 / 1024) := rfl
          have HG0 : Hid (Sha.sg0 x2 = Sha.rotr x2 7 ^^^ Sha.rotr x2 18 ^^^ x2 / 8) := rfl
          have e0 := xor32 _ _ r0 r1
          have e1 : bits .xor .u32 ((Sha.rotr x0 17 ^^^ Sha.rotr x0 19 : Nat) : Int) ((x0 : Int) / 1024) = ((Sha.sg1 x0 : Nat) : Int) := xor32 _ (x0 / 1024) (Sha.xor_lt r0 r1) (Sha.div_lt _ l0)
          have e2 := xor32 _ _ r2 r3
          have e3 : bits .xor .u32 ((Sha.rotr x2 7 ^^^ Sha.rotr x2 18 : Nat) : Int) ((x2 : Int) / 8) = ((Sha.sg0 x2 : Nat) : Int) := xor32 _ (x2 / 8) (Sha.xor_lt r2 r3) (Sha.div_lt _ l2)
          have lg1 := Sha.sg1_lt l0
          have lg0 := Sha.sg0_lt l2
          clear h2 hS hlen hwd HB HG1 HG0
          go_wp2_with fail
          go_quiet (fail)
          go_wp2_with fail
          refine (rotated_any x0 17 _ l0 (by decide)).mono ?_
          rintro e w1 ⟨rfl, rfl⟩
          generalize Sha.rotr x0 17 = y0 at *
          go_wp2_with fail
          refine (rotated_any x0 19 _ l0 (by decide)).mono ?_
          rintro e w1 ⟨rfl, rfl⟩
          generalize Sha.rotr x0 19 = y1 at *
          generalize y0 ^^^ y1 = y01 at *
          generalize Sha.sg1 x0 = g1 at *
          go_wp2_with fail
          refine (rotated_any x2 7 _ l2 (by decide)).mono ?_
          rintro e w1 ⟨rfl, rfl⟩
          generalize Sha.rotr x2 7 = y2 at *
          go_wp2_with fail
          refine (rotated_any x2 18 _ l2 (by decide)).mono ?_
          rintro e w1 ⟨rfl, rfl⟩
          generalize Sha.rotr x2 18 = y3 at *
          generalize y2 ^^^ y3 = y23 at *
          generalize Sha.sg0 x2 = g0 at *
          have p0 := add32 g1 x1
          generalize Sha.add g1 x1 = z1 at *
          have p1 := add32 z1 g0
          generalize Sha.add z1 g0 = z2 at *
          have p2 := add32 z2 x3
          rw [← HN.out] at p2
          go_wp2_with fail
          clear r0 r1 r2 r3 e0 e1 e2 e3
          go_region
          go_wp2
          go_roundw
          case rel => exact ⟨k + 1, by omega, by go_num, HS.out.h0, HS.out.h1, HS.out.h2, HS.out.c.os, HS.out.c.tape, HS.out.c.output, HS.out.c.size, HS.out.c.block⟩
          case measure => simp [intOf]; omega
        · obtain rfl : k = 48 := by omega
          have h1 := hS.h1
          have h2 := hS.h2
          have hc := hS.c
          rw [show fill (Sha.sched b 48) 64 = Sha.sched b 48 by have := fill_full (Sha.sched b 48); rw [Sha.sched_len] at this; exact this] at h2
          have hsz : (wds (Sha.sched b 48)).toArray.size = 64 := by rw [wds_size, Sha.sched_len]
          have hi : (Tryd.prog.info? 70).map (·.size) = some (wds (Sha.sched b 48)).toArray.size := by rw [hsz]; exact infoA64
          clear hS HB
          go_wp2_with (first
            | refine wpList_load_row rfl 70 (.tmp 3) rfl (w.heap.size + 1 + 1) rfl 70 _ (0, 0) _ h2 Tryd.underlying70 rfl hi ?_
            | refine wpList_store_row rfl 70 (.tmp 2) (.tmp 88) rfl (w.heap.size + 1) _ rfl rfl 70 _ h1 hi (by rw [hsz, wds_size]; rfl) (wds_one _) ?_)
          (try simp only [Exit.inBlock, Exit.then])
          refine bodyPost_ret (results_cell_row rfl _ _ (w.heap.size + 1) 70 (wds (Sha.sched b 48)).toArray (0, 0) _ rfl (setRow_heap _ _ _ _ _ _ h1) Tryd.underlying70 rfl hi) rfl ⟨rfl, ?_⟩
          exact hc.trans (T := fun b => b = w.heap.size + 1) ⟨rfl, rfl, rfl, by simp, fun b _ hb => setRow_other _ _ _ _ hb⟩ (fun b hb => .inr (by omega))
end Go.Proofs.YtnedllhlmddmoabDoor
