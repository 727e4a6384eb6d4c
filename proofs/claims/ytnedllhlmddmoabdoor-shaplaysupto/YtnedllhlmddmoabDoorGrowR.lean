/- One more hash, by Resume or New: the contract of grows at these kinds; of no statement by itself. -/
import Derived.Test.YtnedllhlmddmoabDoorGrowF
namespace Go.Proofs.YtnedllhlmddmoabDoor
open Go.RowKit
set_option linter.unusedVariables false

theorem grown_new (p0 p1 h nn : Value) (ob : Value) (w : World) (hT : Tab w) :
    Calls Tryd.prog 18 #[.agg #[p0, p1], .agg #[.int .i64 5, h, nn, ob]] w fun e w' => Grown w w' Sha.I 0 [] e := by
  refine (grows_new p0 p1 h nn ob w hT).mono ?_
  rintro e w' ⟨a, r, rfl, ha, hr, hE, hb, hc⟩
  exact ⟨a, r, .slice none 0 0, rfl, ha, by omega, hE, hb, World.ownsRow_nil w' _ 5 1, hc⟩

/-- The three blocks that grows begins with. -/
def opened (w : World) (p0 p1 : Value) (h : Value) (nn : Int) (a : Option Addr) (m c : Nat) : World := ((w.alloc (.cells #[p0, p1] 39)).alloc (.cells #[.int .i64 6, h, .int .i64 nn, .slice a m c] 42)).alloc (.cells #[.pointer none, .pointer none] 39)

theorem opened_chg (w : World) (p0 p1 h : Value) (nn : Int) (a : Option Addr) (m c : Nat) : Chg (fun _ => False) w (opened w p0 p1 h nn a m c) := (((Chg.refl _ w).alloc _).alloc _).alloc _
theorem opened_res (w : World) (p0 p1 h : Value) (nn : Int) (a : Option Addr) (m c : Nat) : (opened w p0 p1 h nn a m c).heap[w.heap.size + 1 + 1]? = some (.cells #[.pointer none, .pointer none] 39 (0, 0)) := by
  unfold opened
  rw [show w.heap.size + 1 + 1 = ((w.alloc (.cells #[p0, p1] 39)).alloc (.cells #[.int .i64 6, h, .int .i64 nn, .slice a m c] 42)).heap.size by simp, heap_alloc_last]
theorem opened_op (w : World) (p0 p1 h : Value) (nn : Int) (a : Option Addr) (m c : Nat) : (opened w p0 p1 h nn a m c).heap[w.heap.size + 1]? = some (.cells #[.int .i64 6, h, .int .i64 nn, .slice a m c] 42 (0, 0)) := by
  unfold opened
  rw [Below.heap_alloc _ _ _ (by simp), show w.heap.size + 1 = (w.alloc (.cells #[p0, p1] 39)).heap.size by simp, heap_alloc_last]

set_option maxHeartbeats 8000000 in
set_option maxRecDepth 100000 in
theorem grows_resume (p0 p1 h : Value) (nn : Int) (a : Option Addr) (m c : Nat) (bs : List Nat) (w : World) (hT : Tab w) (hx : Row8 w a m c (up bs)) (hb : Byt bs) (hm : m ≤ 140737488351232) (n1 : -9223372036854775808 ≤ nn) (n2 : nn < 9223372036854775808) :
    Calls Tryd.prog 18 #[.agg #[p0, p1], .agg #[.int .i64 6, h, .int .i64 nn, .slice a m c]] w fun e w' => (∃ s n, Sha.St s ∧ n % 64 = 0 ∧ n ≤ 1152921504606846976 ∧ Grown w w' s n [] e) ∨ (e = .returned (.tuple #[.agg #[.pointer none, .pointer none], .bool true]) ∧ Chg (fun _ => False) w w') := by
  have c0 := opened_chg w p0 p1 h nn a m c
  have h2 := opened_res w p0 p1 h nn a m c
  have ho := opened_op w p0 p1 h nn a m c
  have k0 : (opened w p0 p1 h nn a m c).cell? ⟨w.heap.size + 1, 0, none⟩ = some (.int .i64 6) := by rw [cell_of_row _ _ 0 _ _ _ ho]; rfl
  have k2 : (opened w p0 p1 h nn a m c).cell? ⟨w.heap.size + 1, 2, none⟩ = some (.int .i64 nn) := by rw [cell_of_row _ _ 2 _ _ _ ho]; rfl
  have k3 : (opened w p0 p1 h nn a m c).cell? ⟨w.heap.size + 1, 3, none⟩ = some (.slice a m c) := by rw [cell_of_row _ _ 3 _ _ _ ho]; rfl
  have HT1 : Hid (Tab (opened w p0 p1 h nn a m c)) := hT.new c0
  have HX1 : Hid (Row8 (opened w p0 p1 h nn a m c) a m c (up bs)) := row8_chg hx c0
  clear hT hx ho
  unfold opened at *
  go_enter Tryd.func18, Tryd.ntmps18
  go_wp2_with fail
  generalize ((w.alloc (.cells #[p0, p1] 39)).alloc (.cells #[.int .i64 6, h, .int .i64 nn, .slice a m c] 42)).alloc (.cells #[.pointer none, .pointer none] 39) = w1 at *
  refine (refsum_any a m c bs w1 HX1.out hb hm).mono ?_
  rintro e w2 ⟨rfl, c2⟩
  have C2 := chg_then c0 c2
  have h22 := blk_keep h2 c2 (fun f => f)
  have k22 := cell_chg k2 c2
  obtain ⟨D, HD⟩ : ∃ D, Hid (Sha.sum Sha.I 0 bs = D) := ⟨_, rfl⟩
  have hl : D.length = 32 := by rw [← HD.out]; exact Sha.told_len _
  have hbD : ∀ x ∈ D, x < 256 := by rw [← HD.out]; exact Sha.told_byt _
  rw [HD.out]
  have HT2 : Hid (Tab w2) := HT1.out.new c2
  have hi : (Tryd.prog.info? 27).map (·.size) = some (byts D).toArray.size := by rw [byts_size, hl]; exact infoB32
  clear HX1 HT1 k0 k2 k3 c0 c2 h2
  have HZ32 : Hid ((byts (List.replicate 32 0)).toArray = #[.int .u8 0, .int .u8 0, .int .u8 0, .int .u8 0, .int .u8 0, .int .u8 0, .int .u8 0, .int .u8 0, .int .u8 0, .int .u8 0, .int .u8 0, .int .u8 0, .int .u8 0, .int .u8 0, .int .u8 0, .int .u8 0, .int .u8 0, .int .u8 0, .int .u8 0, .int .u8 0, .int .u8 0, .int .u8 0, .int .u8 0, .int .u8 0, .int .u8 0, .int .u8 0, .int .u8 0, .int .u8 0, .int .u8 0, .int .u8 0, .int .u8 0, .int .u8 0]) := rfl
  have hz := heap_alloc_last w2 (.cells (byts (List.replicate 32 0)).toArray 27)
  have hset := World.setRow_alloc_new w2 (byts (List.replicate 32 0)).toArray (byts D).toArray 27
  rw [HZ32.out] at hz hset
  have HSZ : Hid ((32 : Nat) = (byts D).toArray.size) := by show _ = _; rw [byts_size, hl]
  have hblk : (w2.alloc (.cells (byts D).toArray 27)).heap[w2.heap.size]? = some (.cells (byts D).toArray 27 (0, 0)) := heap_alloc_last _ _
  have c3 := chg_one w2 (.cells (byts D).toArray 27)
  have C3 := chg_then C2 c3
  have h23 := blk_keep h22 c3 (fun f => f)
  have k23 := cell_chg k22 c3
  have HT3 : Hid (Tab (w2.alloc (.cells (byts D).toArray 27))) := HT2.out.new c3
  have hlt3 := lt_of_blk h22
  have hs2 := C2.size
  clear c3 k22 h22 HT2 C2
  go_wp2_with (first
    | refine wpList_store_row rfl 27 (.tmp 8) (.tmp 39) rfl w2.heap.size (byts D).toArray rfl rfl 27 _ hz hi HSZ.out (byts_one _) ?_
    | (rw [hset]; refine wpList_load_row rfl 27 (.tmp 8) rfl w2.heap.size rfl 27 _ (0, 0) _ hblk Tryd.underlying27 rfl hi ?_)
    | refine wpList_load_row rfl 27 (.tmp 8) rfl w2.heap.size rfl 27 _ (0, 0) _ hblk Tryd.underlying27 rfl hi ?_)
  clear hz hset HZ32 HSZ
  generalize w2.alloc (.cells (byts D).toArray 27) = w3 at *
  have infoP : (Tryd.prog.info? 39).map (·.size) = some 2 := by kernel_rfl
  have fin : ∀ (wz : World) (x y : Value), Chg (fun _ => False) w wz → wz.heap[w.heap.size + 1 + 1]? = some (.cells #[.pointer none, .pointer none] 39 (0, 0)) →
      (wz.cell? ⟨w.heap.size + 1 + 1, 0, none⟩ = some (.pointer none) ∧ wz.cell? ⟨w.heap.size + 1 + 1, 1, none⟩ = some (.pointer none) ∧ ∀ k, wz.frozen? ⟨w.heap.size + 1 + 1, k, none⟩ = false) ∧
      Hid (((wz.setCell ⟨w.heap.size + 1 + 1, 0, none⟩ x).setCell ⟨w.heap.size + 1 + 1, 1, none⟩ y).heap[w.heap.size + 1 + 1]? = some (.cells #[x, y] 39 (0, 0))) ∧ Hid (Chg (fun k => k = w.heap.size + 1 + 1) wz ((wz.setCell ⟨w.heap.size + 1 + 1, 0, none⟩ x).setCell ⟨w.heap.size + 1 + 1, 1, none⟩ y)) ∧ Hid (Chg (fun _ => False) w ((wz.setCell ⟨w.heap.size + 1 + 1, 0, none⟩ x).setCell ⟨w.heap.size + 1 + 1, 1, none⟩ y)) := fun wz x y hc hz => by
    have c1 : Chg (fun k => k = w.heap.size + 1 + 1) wz ((wz.setCell ⟨w.heap.size + 1 + 1, 0, none⟩ x).setCell ⟨w.heap.size + 1 + 1, 1, none⟩ y) := ((Chg.refl (fun k => k = w.heap.size + 1 + 1) wz).setCell (p := ⟨w.heap.size + 1 + 1, 0, none⟩) (.inl rfl) _).setCell (p := ⟨w.heap.size + 1 + 1, 1, none⟩) (.inl rfl) _
    exact ⟨⟨cell0 hz, cell1 hz, fun k => by simp [World.frozen?, hz]⟩, blk_setk (l := [x, .pointer none]) (blk_setk (l := [.pointer none, .pointer none]) hz 0 _) 1 _, c1, hc.trans c1 (fun _ e => .inr (by omega))⟩
  by_cases hn : nn < 0 ∨ nn % 64 ≠ 0 ∨ 1152921504606846976 < nn
  · refine (resume_no D nn w3 hn n1 n2).mono ?_
    rintro e w4 ⟨rfl, c4⟩
    have hblk4 := blk_keep hblk c4 (fun f => f)
    have k24 := cell_chg k23 c4
    have h24 := blk_keep h23 c4 (fun f => f)
    have C4 := chg_then C3 c4
    clear hblk k23 h23 C3 c4 HT3
    go_wp2_with (refine wpList_load_row rfl 27 (.tmp 8) rfl w2.heap.size rfl 27 _ (0, 0) _ hblk4 Tryd.underlying27 rfl hi ?_)
    refine (refresume_no D nn w4 hn n1 n2).mono ?_
    rintro e w5 ⟨rfl, c5⟩
    have h25 := blk_keep h24 c5 (fun f => f)
    have C5 := chg_then C4 c5
    obtain ⟨⟨q0, q1, f0⟩, F1, F2, F3⟩ := fin w5 (.pointer none) (.pointer none) C5 h25
    clear hblk4 k24 h24 C4 c5 fin
    go_wp2
    (try simp only [Exit.inBlock, Exit.then])
    refine bodyPost_ret (results_pair rfl _ _ (w.heap.size + 1 + 1) 39 #[.pointer none, .pointer none] (0, 0) _ rfl F1.out Tryd.underlying39 infoP) rfl ?_
    exact .inr ⟨rfl, F3.out⟩
  · obtain ⟨n, rfl⟩ : ∃ n : Nat, nn = (n : Int) := ⟨nn.toNat, by omega⟩
    have hn64 : n % 64 = 0 := by omega
    have hnle : n ≤ 1152921504606846976 := by omega
    refine (resume_yes D n w3 HT3.out hl hbD hn64 hnle).mono ?_
    rintro e w4 ⟨ha, rfl, hal, hE, c4⟩
    have hblk4 := blk_keep hblk c4 (fun f => f)
    have k24 := cell_chg k23 c4
    have h24 := blk_keep h23 c4 (fun f => f)
    have C4 := chg_then C3 c4
    have HE : Hid (Eat w4 ha (Sha.known D) n []) := hE
    have hlt4 := eat_lt hE
    have hw23 := lt_of_blk h23
    clear hblk k23 h23 c4 HT3 hE
    go_wp2_with (refine wpList_load_row rfl 27 (.tmp 8) rfl w2.heap.size rfl 27 _ (0, 0) _ hblk4 Tryd.underlying27 rfl hi ?_)
    refine (refresume_yes D n w4 hl hbD hn64 hnle).mono ?_
    rintro e w5 ⟨hr, rfl, hrl, hB, c5⟩
    have h25 := blk_keep h24 c5 (fun f => f)
    have C5 := chg_then C4 c5
    have HE5 : Hid (Eat w5 ha (Sha.known D) n []) := HE.out.new c5
    have HB : Hid _ := hB
    have l3 := C3.size
    have hw3 := lt_of_blk h24
    have hl2 : w.heap.size + 1 + 1 < ha := by omega
    have hl3 : w.heap.size + 1 + 1 < hr := by omega
    obtain ⟨⟨q0, q1, f0⟩, F1, F2, F3⟩ := fin w5 (.pointer (some ⟨ha, 0, none⟩)) (.pointer (some ⟨hr, 0, none⟩)) C5 h25
    clear hblk4 k24 h24 C4 c5 fin C3 hB HE
    go_wp2
    (try simp only [Exit.inBlock, Exit.then])
    refine bodyPost_ret (results_pair rfl _ _ (w.heap.size + 1 + 1) 39 #[.pointer (some ⟨ha, 0, none⟩), .pointer (some ⟨hr, 0, none⟩)] (0, 0) _ rfl F1.out Tryd.underlying39 infoP) rfl ?_
    exact .inl ⟨Sha.known D, n, Sha.known_st hbD, hn64, hnle, ha, hr, .slice none 0 0, rfl, by omega, by omega, Eat.keep HE5.out F2.out (by omega), blk_keep HB.out F2.out (by omega), World.ownsRow_nil _ _ 5 1, F3.out⟩
end Go.Proofs.YtnedllhlmddmoabDoor
