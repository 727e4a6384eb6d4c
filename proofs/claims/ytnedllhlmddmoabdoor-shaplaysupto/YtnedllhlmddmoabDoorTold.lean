/- A state's words as bytes, and back: the contracts of told and known; of no statement by themselves. -/
import Derived.Test.YtnedllhlmddmoabDoorStep
namespace Go.Proofs.YtnedllhlmddmoabDoor
open Go.RowKit
set_option linter.unusedVariables false

/-- What the walk keeps. -/
structure Tld (w wr : World) (s l : List Nat) : Prop where
  h0 : wr.heap[w.heap.size]? = some (.cells (wds s).toArray 45 (0, 0))
  h1 : wr.heap[w.heap.size + 1]? = some (.cells (byts (fill [] 32)).toArray 27 (0, 0))
  h2 : wr.heap[w.heap.size + 1 + 1]? = some (.cells (byts (fill l 32)).toArray 27 (0, 0))
  c : Chg (fun _ => False) w wr

theorem Tld.set {w wr : World} {b l : List Nat} (h : Tld w wr b l) (x : Nat) (hl : l.length < 32) : Tld w (wr.setCell ⟨w.heap.size + 1 + 1, l.length, none⟩ (.int .u8 (x : Nat))) b (l ++ [x]) := by
  refine ⟨?_, ?_, ?_, h.c.setCell (.inr (by show w.heap.size ≤ w.heap.size + 1 + 1; omega)) _⟩
  · rw [Below.heap_setCell _ _ _ _ (by simp; omega), h.h0]
  · rw [Below.heap_setCell _ _ _ _ (by simp), h.h1]
  · rw [blk_setk h.h2, byts_set, fill_set _ _ _ hl]

theorem tld_start (w : World) (b : List Nat) (o : Array Value) (ho : o = (byts (fill [] 32)).toArray) : Tld w (((w.alloc (.cells (wds b).toArray 45)).alloc (.cells o 27)).alloc (.cells o 27)) b [] := by
  subst ho
  refine ⟨?_, ?_, ?_, (((Chg.refl _ w).alloc _).alloc _).alloc _⟩
  · rw [Below.heap_alloc _ _ _ (by simp; omega), Below.heap_alloc _ _ _ (by simp), heap_alloc_last]
  · rw [Below.heap_alloc _ _ _ (by simp), show w.heap.size + 1 = (w.alloc (.cells (wds b).toArray 45)).heap.size by simp, heap_alloc_last]
  · rw [show w.heap.size + 1 + 1 = ((w.alloc (.cells (wds b).toArray 45)).alloc (.cells (byts (fill [] 32)).toArray 27)).heap.size by simp, heap_alloc_last]

theorem told_take (s : List Nat) (k : Nat) (hk : k < 32) : (Sha.told s).take (k + 1) = (Sha.told s).take k ++ [s.getD (k / 4) 0 / 2 ^ (24 - k % 4 * 8) % 256] := by
  rw [List.take_succ_eq_append_getElem (by rw [Sha.told_len]; exact hk)]
  simp [Sha.told]

set_option maxHeartbeats 4000000 in
set_option maxRecDepth 100000 in
theorem told_any (s : List Nat) (w : World) (hs : Sha.St s) :
    Calls Tryd.prog 21 #[.agg (wds s).toArray] w fun e w' => e = .returned (.agg (byts (Sha.told s)).toArray) ∧ Chg (fun _ => False) w w' := by
  go_enter Tryd.func21, Tryd.ntmps21
  go_wp2_with fail
  go_loopw [5] (fun i wr => ∃ k : Nat, k ≤ 32 ∧ i = .int .i64 k ∧ Tld w wr s ((Sha.told s).take k)) (fun i _ => 32 - (intOf i).toNat)
  case atStart => exact ⟨0, by omega, rfl, tld_start w s _ rfl⟩
  case round =>
    obtain ⟨k, hk, rfl, hS⟩ := hrel
    by_cases hlt : k < 32
    · have h0 := hS.h0
      have h2 := hS.h2
      have a0 := wds_cell h0 (k / 4) (by rw [hs.len]; omega)
      have l0 := hs.wds.getD (k / 4)
      have hlen : ((Sha.told s).take k).length = k := by rw [List.length_take, Sha.told_len]; omega
      have c2 := byts_cell h2 k (by rw [fill_len _ _ (by rw [hlen]; omega)]; omega)
      have f2 : wr.frozen? ⟨w.heap.size + 1 + 1, k, none⟩ = false := by simp [World.frozen?, h2]
      have HS : Hid (Tld w (wr.setCell ⟨w.heap.size + 1 + 1, k, none⟩ (.int .u8 (s.getD (k / 4) 0 / 2 ^ (24 - k % 4 * 8) % 256 : Nat))) s ((Sha.told s).take (k + 1))) := by
        show Tld _ _ _ _
        have := hS.set (s.getD (k / 4) 0 / 2 ^ (24 - k % 4 * 8) % 256) (by rw [hlen]; omega)
        rw [hlen] at this
        rw [told_take s k hlt]
        exact this
      generalize (fill ((Sha.told s).take k) 32).getD k 0 = z at *
      generalize s.getD (k / 4) 0 = x at *
      have HV : Hid ((x : Int) / 2 ^ (24 - k % 4 * 8) % 256 = ((x / 2 ^ (24 - k % 4 * 8) % 256 : Nat) : Int)) := by show _ = _; simp
      clear h0 h2 hS hs hlen
      go_wp2
      go_roundw
      case rel => exact ⟨k + 1, by omega, by go_num, by rw [HV.out]; exact HS.out⟩
      case measure => simp [intOf]; omega
    · have h1 := hS.h1
      have h2 := hS.h2
      have hc := hS.c
      rw [show fill ((Sha.told s).take k) 32 = Sha.told s by
        rw [List.take_of_length_le (by rw [Sha.told_len]; omega)]
        have := fill_full (Sha.told s); rw [Sha.told_len] at this; exact this] at h2
      have hsz : (byts (Sha.told s)).toArray.size = 32 := by rw [byts_size, Sha.told_len]
      have hi : (Tryd.prog.info? 27).map (·.size) = some (byts (Sha.told s)).toArray.size := by rw [hsz]; exact infoB32
      clear hS hs
      go_wp2_with (first
        | refine wpList_load_row rfl 27 (.tmp 3) rfl (w.heap.size + 1 + 1) rfl 27 _ (0, 0) _ h2 Tryd.underlying27 rfl hi ?_
        | refine wpList_store_row rfl 27 (.tmp 2) (.tmp 21) rfl (w.heap.size + 1) _ rfl rfl 27 _ h1 hi (by rw [hsz, byts_size]; rfl) (byts_one _) ?_)
      (try simp only [Exit.inBlock, Exit.then])
      refine bodyPost_ret (results_cell_row rfl _ _ (w.heap.size + 1) 27 (byts (Sha.told s)).toArray (0, 0) _ rfl (setRow_heap _ _ _ _ _ _ h1) Tryd.underlying27 rfl hi) rfl ⟨rfl, ?_⟩
      exact hc.trans (T := fun b => b = w.heap.size + 1) ⟨rfl, rfl, rfl, by simp, fun b _ hb => setRow_other _ _ _ _ hb⟩ (fun b hb => .inr (by omega))

/-- The state behind the first k bytes. -/
def kn (b : List Nat) : Nat → List Nat
  | 0 => fill [] 8
  | k + 1 => (kn b k).set (k / 4) ((kn b k).getD (k / 4) 0 * 256 % 4294967296 ||| b.getD k 0)

theorem kn_len (b : List Nat) : ∀ k, (kn b k).length = 8
  | 0 => rfl
  | k + 1 => by simp [kn, kn_len b k]

theorem kn_wds {b : List Nat} (hb : ∀ x ∈ b, x < 256) : ∀ k, Sha.Wds (kn b k)
  | 0 => by unfold Sha.Wds kn fill; decide
  | k + 1 => fun x hx => by
    rcases List.mem_or_eq_of_mem_set hx with h | h
    · exact kn_wds hb k x h
    · rw [h]
      exact Sha.or_lt (Nat.mod_lt _ (by omega)) (by have := Sha.byte_getD hb k; omega)

theorem set4 (l : List Nat) (q a b c d : Nat) (hq : q < l.length) (h0 : l.getD q 0 = 0) (ha : a < 256) (hb : b < 256) (hc : c < 256) (hd : d < 256) :
    (((l.set q (l.getD q 0 * 256 % 4294967296 ||| a)).set q ((l.set q (l.getD q 0 * 256 % 4294967296 ||| a)).getD q 0 * 256 % 4294967296 ||| b)).set q
      (((l.set q (l.getD q 0 * 256 % 4294967296 ||| a)).set q ((l.set q (l.getD q 0 * 256 % 4294967296 ||| a)).getD q 0 * 256 % 4294967296 ||| b)).getD q 0 * 256 % 4294967296 ||| c)).set q
      ((((l.set q (l.getD q 0 * 256 % 4294967296 ||| a)).set q ((l.set q (l.getD q 0 * 256 % 4294967296 ||| a)).getD q 0 * 256 % 4294967296 ||| b)).set q
      (((l.set q (l.getD q 0 * 256 % 4294967296 ||| a)).set q ((l.set q (l.getD q 0 * 256 % 4294967296 ||| a)).getD q 0 * 256 % 4294967296 ||| b)).getD q 0 * 256 % 4294967296 ||| c)).getD q 0 * 256 % 4294967296 ||| d) = l.set q (((a * 256 + b) * 256 + c) * 256 + d) := by
  have g : ∀ (m : List Nat) (x : Nat), q < m.length → (m.set q x).getD q 0 = x := fun m x hm => by simp [hm]
  have o : ∀ x y, x < 16777216 → y < 256 → x * 256 % 4294967296 ||| y = x * 256 + y := fun x y hx hy => by
    rw [Nat.mod_eq_of_lt (by omega)]
    have := Nat.two_pow_add_eq_or_of_lt (i := 8) (b := y) (by omega) x
    rw [show x * 256 = 2 ^ 8 * x by omega, ← this]
  rw [h0, show 0 * 256 % 4294967296 ||| a = a by simp, g l a hq, o a b (by omega) hb]
  have gl : ∀ x : Nat, (l.set q x).getD q 0 = x := fun x => g l x hq
  simp only [List.set_set, gl]
  rw [o _ c (by omega) hc, o _ d (by omega) hd]

theorem kn_four {b : List Nat} (hb : ∀ x ∈ b, x < 256) : ∀ q, q ≤ 8 → kn b (4 * q) = fill (Sha.first b q) 8
  | 0, _ => rfl
  | q + 1, hq => by
    have ih := kn_four hb q (by omega)
    have hl := kn_len b (4 * q)
    have h0 : (kn b (4 * q)).getD q 0 = 0 := by
      rw [ih]
      unfold fill
      rw [List.getD_eq_getElem?_getD, List.getElem?_append_right (by rw [Sha.first_len]; omega), List.getElem?_replicate]
      split <;> rfl
    have e := set4 (kn b (4 * q)) q _ _ _ _ (by omega) h0 (Sha.byte_getD hb (4 * q)) (Sha.byte_getD hb (4 * q + 1)) (Sha.byte_getD hb (4 * q + 2)) (Sha.byte_getD hb (4 * q + 3))
    have u : kn b (4 * (q + 1)) = (kn b (4 * q)).set q (Sha.wd b q) := by
      rw [show 4 * (q + 1) = 4 * q + 1 + 1 + 1 + 1 by omega]
      simp only [kn]
      rw [show (4 * q) / 4 = q by omega, show (4 * q + 1) / 4 = q by omega, show (4 * q + 1 + 1) / 4 = q by omega, show (4 * q + 1 + 1 + 1) / 4 = q by omega]
      exact e
    rw [u, ih, Sha.first_succ]
    have := fill_set (Sha.first b q) 8 (Sha.wd b q) (by rw [Sha.first_len]; omega)
    rw [Sha.first_len] at this
    exact this

theorem kn_all {b : List Nat} (hb : ∀ x ∈ b, x < 256) : kn b 32 = Sha.known b := by
  have := kn_four hb 8 (Nat.le_refl _)
  rw [show 4 * 8 = 32 by rfl] at this
  rw [this]
  have h2 := fill_full (Sha.first b 8)
  rw [Sha.first_len] at h2
  exact h2

theorem index_b32 (w : World) (b : List Nat) (k : Nat) (hk : k < 32) (hl : b.length = 32) : (Instr.index 27 (.agg (byts b).toArray) (.int .i64 (k : Int))).run Tryd.prog w = .ok (.int .u8 (b.getD k 0 : Nat)) w := by
  have h1 : (0 : Int) ≤ k ∧ (k : Int) < 32 := by omega
  have h2 := byts_at b k (by omega)
  simp [Instr.index, run_underlying Tryd.underlying27, asIntOf, go_sem]
  rw [if_pos hk, h2]
  simp

/-- What the walk keeps. -/
structure Knw (w wr : World) (l : List Nat) : Prop where
  h1 : wr.heap[w.heap.size + 1]? = some (.cells (wds (fill [] 8)).toArray 45 (0, 0))
  h2 : wr.heap[w.heap.size + 1 + 1]? = some (.cells (wds l).toArray 45 (0, 0))
  c : Chg (fun _ => False) w wr

theorem Knw.set {w wr : World} {l : List Nat} (h : Knw w wr l) (k x : Nat) : Knw w (wr.setCell ⟨w.heap.size + 1 + 1, k, none⟩ (.int .u32 (x : Nat))) (l.set k x) := by
  refine ⟨?_, ?_, h.c.setCell (.inr (by show w.heap.size ≤ w.heap.size + 1 + 1; omega)) _⟩
  · rw [Below.heap_setCell _ _ _ _ (by simp), h.h1]
  · rw [blk_setk h.h2, wds_set]

set_option maxHeartbeats 4000000 in
set_option maxRecDepth 100000 in
theorem known_any (b : List Nat) (w : World) (hl : b.length = 32) (hb : ∀ x ∈ b, x < 256) :
    Calls Tryd.prog 35 #[.agg (byts b).toArray] w fun e w' => e = .returned (.agg (wds (Sha.known b)).toArray) ∧ Chg (fun _ => False) w w' := by
  have hi32 : (Tryd.prog.info? 27).map (·.size) = some (byts b).toArray.size := by rw [byts_size, hl]; exact infoB32
  have hS : Knw w (((w.alloc (.cells (byts b).toArray 27)).alloc (.cells (wds (fill [] 8)).toArray 45)).alloc (.cells (wds (fill [] 8)).toArray 45)) (kn b 0) := by
    refine ⟨?_, ?_, (((Chg.refl _ w).alloc _).alloc _).alloc _⟩
    · rw [Below.heap_alloc _ _ _ (by simp), show w.heap.size + 1 = (w.alloc (.cells (byts b).toArray 27)).heap.size by simp, heap_alloc_last]
    · rw [show w.heap.size + 1 + 1 = ((w.alloc (.cells (byts b).toArray 27)).alloc (.cells (wds (fill [] 8)).toArray 45)).heap.size by simp, heap_alloc_last]
      rfl
  have h0 : (((w.alloc (.cells (byts b).toArray 27)).alloc (.cells (wds (fill [] 8)).toArray 45)).alloc (.cells (wds (fill [] 8)).toArray 45)).heap[w.heap.size]? = some (.cells (byts b).toArray 27 (0, 0)) := by
    rw [Below.heap_alloc _ _ _ (by simp; omega), Below.heap_alloc _ _ _ (by simp), heap_alloc_last]
  have HZ : Hid ((wds (fill [] 8)).toArray = #[.int .u32 0, .int .u32 0, .int .u32 0, .int .u32 0, .int .u32 0, .int .u32 0, .int .u32 0, .int .u32 0]) := rfl
  go_enter Tryd.func35, Tryd.ntmps35
  go_wp2_with (refine wpList_load_row rfl 27 (.tmp 1) rfl w.heap.size rfl 27 _ (0, 0) _ h0 Tryd.underlying27 rfl hi32 ?_)
  go_loopw [7] (fun i wr => ∃ k : Nat, k ≤ 32 ∧ i = .int .i64 k ∧ Knw w wr (kn b k)) (fun i _ => 32 - (intOf i).toNat)
  case atStart => exact ⟨0, by omega, rfl, hS⟩
  case round =>
    clear hS h0
    obtain ⟨k, hk, rfl, hS⟩ := hrel
    by_cases hlt : k < 32
    · have h2 := hS.h2
      have a0 := wds_cell h2 (k / 4) (by rw [kn_len]; omega)
      have l0 := (kn_wds hb k).getD (k / 4)
      have l1 := Sha.byte_getD hb k
      have f2 : wr.frozen? ⟨w.heap.size + 1 + 1, k / 4, none⟩ = false := by simp [World.frozen?, h2]
      have hat := index_b32 wr b k hlt hl
      have HS : Hid (Knw w (wr.setCell ⟨w.heap.size + 1 + 1, k / 4, none⟩ (.int .u32 ((kn b k).getD (k / 4) 0 * 256 % 4294967296 ||| b.getD k 0 : Nat))) (kn b (k + 1))) := hS.set _ _
      have ho := or32 ((kn b k).getD (k / 4) 0 * 256 % 4294967296) (b.getD k 0) (Nat.mod_lt _ (by omega)) (by omega)
      generalize (kn b k).getD (k / 4) 0 * 256 % 4294967296 ||| b.getD k 0 = z at *
      have hm : IntKind.u32.wrap (((kn b k).getD (k / 4) 0 : Nat) * (256 : Int)) = (((kn b k).getD (k / 4) 0 * 256 % 4294967296 : Nat) : Int) := shl32 _ 256
      generalize (kn b k).getD (k / 4) 0 = x at *
      generalize x * 256 % 4294967296 = y at *
      generalize b.getD k 0 = v at *
      clear h2 hS
      go_wp2
      go_roundw
      case rel =>
        exact ⟨k + 1, by omega, by go_num, HS.out⟩
      case measure => simp [intOf]; omega
    · have h1 := hS.h1
      have h2 := hS.h2
      have hc := hS.c
      rw [show k = 32 by omega, kn_all hb] at h2
      have hsz : (wds (Sha.known b)).toArray.size = 8 := by rw [wds_size, (Sha.known_st hb).len]
      have hi : (Tryd.prog.info? 45).map (·.size) = some (wds (Sha.known b)).toArray.size := by rw [hsz]; exact infoA8
      clear hS hb
      go_wp2_with (first
        | refine wpList_load_row rfl 45 (.tmp 3) rfl (w.heap.size + 1 + 1) rfl 45 _ (0, 0) _ h2 Tryd.underlying45 rfl hi ?_
        | refine wpList_store_row rfl 45 (.tmp 2) (.tmp 23) rfl (w.heap.size + 1) _ rfl rfl 45 _ h1 hi (by rw [hsz, wds_size]; rfl) (wds_one _) ?_)
      (try simp only [Exit.inBlock, Exit.then])
      refine bodyPost_ret (results_cell_row rfl _ _ (w.heap.size + 1) 45 (wds (Sha.known b)).toArray (0, 0) _ rfl (setRow_heap _ _ _ _ _ _ h1) Tryd.underlying45 rfl hi) rfl ⟨rfl, ?_⟩
      exact hc.trans (T := fun b => b = w.heap.size + 1) ⟨rfl, rfl, rfl, by simp, fun b _ hb => setRow_other _ _ _ _ hb⟩ (fun b hb => .inr (by omega))
end Go.Proofs.YtnedllhlmddmoabDoor
