/- ShaBlocks holds: for every list of bytes handed to the statement's function the call returns true and the argument reads afterwards as it did; the two tables are as the program's text lays them. -/
import Derived.Test.YtnedllhlmddmoaaDoorKnown
import Derived.Test.YtnedllhlmddmoaaDoorCards
import Derived.Test.YtnedllhlmddmoaaDoorTie
import Derived.SevenTiedAt
namespace Go.Proofs.YtnedllhlmddmoaaDoor.shaBlocks
open Go.ChangeShapes Go.WideShapes Go.ChangeAt Go.RowKit
set_option linter.unusedVariables false

/-- What the walk keeps: the state's block, all bytes, memory. -/
structure Bk (w wr : World) (sb : Nat) (st : List Nat) (y : Addr) (n c : Nat) (all : List Nat) : Prop where
  s : wr.heap[sb]? = some (.cells (wds st).toArray 23 (0, 0))
  r : Row8 wr (some y) n c (up all)
  c : Chg (fun _ => False) w wr

theorem Bk.new {w wr wr' : World} {sb : Nat} {st : List Nat} {y : Addr} {n c : Nat} {all : List Nat} (h : Bk w wr sb st y n c all) (hc : Chg (fun _ => False) wr wr') : Bk w wr' sb st y n c all :=
  ⟨blk_keep h.s hc (fun f => f), row8_chg h.r hc, chg_then h.c hc⟩

/-- A change of a newer block. -/
theorem Bk.at {w wr wr' : World} {sb g : Nat} {st : List Nat} {y : Addr} {n c : Nat} {all : List Nat} (h : Bk w wr sb st y n c all) (hc : Chg (fun k => k = g) wr wr') (h1 : sb ≠ g) (h2 : y.block ≠ g) (h3 : w.heap.size ≤ g) : Bk w wr' sb st y n c all :=
  ⟨blk_keep h.s hc h1, row8_keep h.r hc (fun z e => by cases e; exact h2), h.c.trans hc (fun i e => .inr (by omega))⟩

theorem blk_take (all : List Nat) (I k : Nat) (h : I + k < all.length) (hk : k < 64) : (all.drop I).take (k + 1) = (all.drop I).take k ++ [all.getD (I + k) 0] := by
  rw [List.take_succ_eq_append_getElem (by rw [List.length_drop]; omega)]
  simp [List.getD_eq_getElem?_getD, List.getElem?_eq_getElem h]

theorem blk_len (all : List Nat) (I k : Nat) (h : I + k ≤ all.length) : ((all.drop I).take k).length = k := by
  rw [List.length_take, List.length_drop]; omega

set_option maxHeartbeats 8000000 in
set_option maxRecDepth 100000 in
theorem walk (a : Option Addr) (la ca : Nat) (xa : List Nat) (w : World) (hT : Tab w) (r_a : Row8 w a la ca (up xa)) (hba : Byt xa)
    (hca : la ≤ ca) (hna : la ≤ 140737488351232) :
    Calls Tryd.prog 4 #[.slice a la ca] w fun e w' => e = .returned (.bool true) ∧ Chg (fun _ => False) w w' := by
  obtain ⟨i0, hi, hz0, hz1, hz2⟩ := info_parts info5
  have hxa : xa.length = la := by rw [← up_length]; exact r_a.1
  have E1 : [xa].flatten = xa := by simp
  have T0 := hT
  have C0 : Chg (fun _ => False) w w := Chg.refl _ _
  go_enter Tryd.func4, Tryd.ntmps4
  go_wp2_with fail
  refine (lawknown_any w T0).mono ?_
  rintro e w1 ⟨rfl, cc⟩
  have C1 : Chg (fun _ => False) w w1 := chg_then C0 cc
  have T1 := T0.new C1
  clear cc C0  
  have h0 := own_empty w1
  have c0 := chg_one w1 (.cells #[] 5)
  go_wp2_with (at_builtin; refine wpList_append_moved rfl _ _ 29 rfl w1.heap.size 5 i0 (.int .u8 0) 1 1 Tryd.underlying29 hi hz0 hz1 hz2 rfl (by decide) _ 0 (cells8 []) rfl a la ca rfl (cells8 (up xa)) h0 (row8_chg r_a (chg_then C1 c0)).src (oneCells (up xa)) (by unfold maxLen; omega) (by omega) c0.size ?_)
  intro v1 w2 ho1 hg1 _
  have cc : Chg (fun _ => False) w1 w2 := c0.grown hg1 (fun k e => .inr ((h0.lt k e).1))
  rw [cells8_append, List.nil_append] at ho1
  obtain ⟨ba, bc, rfl, hrow, hle, hblk⟩ := own_row8d ho1
  have HO : Hid (w2.ownsRow w1.heap.size 5 1 (.slice ba la bc) la (cells8 (up xa))) := ho1
  have HS : Hid (w1.heap.size ≤ w2.heap.size) := cc.size
  have HW : Hid (w.heap.size ≤ w1.heap.size) := C1.size
  clear hg1 h0 c0 ho1
  have C2 : Chg (fun _ => False) w w2 := chg_then C1 cc
  have T2 := T0.new C2
  clear cc T1 C1  
  have ho2 : w2.ownsRow w1.heap.size 5 1 (.slice ba la bc) la (cells8 (up xa)) := HO.out
  go_wp2_with fail
  refine (pad_any la w2 (by omega)).mono ?_
  rintro e w3 ⟨p, rfl, hp, hp2, c3⟩
  have hpl := Sha.padlen_le la
  have hpg := Sha.padlen_ge la
  have hpm := Sha.padlen_mod la
  have hlp : (Sha.pad la).length = Sha.padlen la := Sha.pad_len _
  have hpb : Byt (Sha.pad la) := Sha.pad_byt _
  have hprow := row8_blk hp2 (Sha.padlen la) (Sha.padlen la) hlp
  have ho3 := ownsRow_keep ho2 c3 (fun _ _ f => f)
  have C3 := chg_then C2 c3
  have hB3 : w1.heap.size ≤ w3.heap.size := Nat.le_trans HS.out c3.size
  have HD : Hid (Sha.sum Sha.I 0 xa = Sha.told (Sha.eat Sha.I (xa ++ Sha.pad la))) := by
    show Sha.told (Sha.eat Sha.I (xa ++ Sha.pad (0 + xa.length))) = _
    rw [Nat.zero_add, hxa]
  clear hrow hle hblk hp hp2 c3 C2 T2 ho2 HO HS
  generalize Sha.pad la = xp at *
  generalize Sha.padlen la = lp at *
  go_wp2_with (at_builtin; refine wpList_append_moved rfl _ _ 29 rfl w1.heap.size 5 i0 (.int .u8 0) 1 1 Tryd.underlying29 hi hz0 hz1 hz2 rfl (by decide) _ la (cells8 (up xa)) rfl (some ⟨p, 0, none⟩) lp lp rfl (cells8 (up xp)) ho3 hprow.src (oneCells _) (by unfold maxLen; omega) (by omega) hB3 ?_)
  intro v1 w4 ho4 hg4 _
  have C4 : Chg (fun _ => False) w w4 := C3.grown hg4 (fun k e => .inr (Nat.le_trans HW.out ((ho3.lt k e).1)))
  rw [cells8_append, ← up_append] at ho4
  obtain ⟨ba', bc', rfl, hrow, hle, hblk⟩ := own_row8d ho4
  clear ho3 hprow hg4 ho4 C3
  obtain ⟨y, rfl⟩ : ∃ y, ba' = some y := by
    rcases hrow.2 with ⟨_, h0, _⟩ | ⟨x, e, _⟩
    · omega
    · exact ⟨x, e⟩
  have hylt : y.block < w4.heap.size := hrow.below (by omega) y rfl
  have hab : Byt (xa ++ xp) := hba.append hpb
  have hal : (xa ++ xp).length = la + lp := by rw [List.length_append, hxa, hlp]
  generalize xa ++ xp = all at *
  generalize hN : la + lp = N at *
  have hmod : (N : Int) % 64 = 0 := by omega
  have hs0 : (w4.alloc (.cells #[.int .u32 0, .int .u32 0, .int .u32 0, .int .u32 0, .int .u32 0, .int .u32 0, .int .u32 0, .int .u32 0] 23)).heap[w4.heap.size]? = some (.cells #[.int .u32 0, .int .u32 0, .int .u32 0, .int .u32 0, .int .u32 0, .int .u32 0, .int .u32 0, .int .u32 0] 23 (0, 0)) := heap_alloc_last _ _
  have hset := World.setRow_alloc_new w4 #[.int .u32 0, .int .u32 0, .int .u32 0, .int .u32 0, .int .u32 0, .int .u32 0, .int .u32 0, .int .u32 0] (wds Sha.I).toArray 23
  have hB5 : Bk w (w4.alloc (.cells (wds Sha.I).toArray 23)) w4.heap.size (Sha.run Sha.I all 0) y N bc' all := ⟨heap_alloc_last _ _, row8_chg hrow (chg_one _ _), chg_then C4 (chg_one _ _)⟩
  have hsb : w.heap.size ≤ w4.heap.size := C4.size
  have HZ64 : Hid ((byts (fill [] 64)).toArray = #[.int .u8 0, .int .u8 0, .int .u8 0, .int .u8 0, .int .u8 0, .int .u8 0, .int .u8 0, .int .u8 0, .int .u8 0, .int .u8 0, .int .u8 0, .int .u8 0, .int .u8 0, .int .u8 0, .int .u8 0, .int .u8 0, .int .u8 0, .int .u8 0, .int .u8 0, .int .u8 0, .int .u8 0, .int .u8 0, .int .u8 0, .int .u8 0, .int .u8 0, .int .u8 0, .int .u8 0, .int .u8 0, .int .u8 0, .int .u8 0, .int .u8 0, .int .u8 0, .int .u8 0, .int .u8 0, .int .u8 0, .int .u8 0, .int .u8 0, .int .u8 0, .int .u8 0, .int .u8 0, .int .u8 0, .int .u8 0, .int .u8 0, .int .u8 0, .int .u8 0, .int .u8 0, .int .u8 0, .int .u8 0, .int .u8 0, .int .u8 0, .int .u8 0, .int .u8 0, .int .u8 0, .int .u8 0, .int .u8 0, .int .u8 0, .int .u8 0, .int .u8 0, .int .u8 0, .int .u8 0, .int .u8 0, .int .u8 0, .int .u8 0, .int .u8 0]) := rfl
  have HZ32 : Hid ((byts (List.replicate 32 0)).toArray = #[.int .u8 0, .int .u8 0, .int .u8 0, .int .u8 0, .int .u8 0, .int .u8 0, .int .u8 0, .int .u8 0, .int .u8 0, .int .u8 0, .int .u8 0, .int .u8 0, .int .u8 0, .int .u8 0, .int .u8 0, .int .u8 0, .int .u8 0, .int .u8 0, .int .u8 0, .int .u8 0, .int .u8 0, .int .u8 0, .int .u8 0, .int .u8 0, .int .u8 0, .int .u8 0, .int .u8 0, .int .u8 0, .int .u8 0, .int .u8 0, .int .u8 0, .int .u8 0]) := rfl
  have hyne : y.block ≠ w4.heap.size := by omega
  go_wp2_with (refine wpList_store_row rfl 23 (.tmp 4) (.tmp 24) rfl w4.heap.size (wds Sha.I).toArray rfl rfl 23 _ hs0 infoA8 rfl (wds_one _) ?_)
  clear hs0 hset hrow C4
  generalize w4.alloc (.cells (wds Sha.I).toArray 23) = w5 at *
  generalize w4.heap.size = sb at *
  go_loopw [5] (fun i wr => ∃ I m : Nat, I = 64 * m ∧ I ≤ N ∧ i = .int .i64 I ∧ Bk w wr sb (Sha.run Sha.I all m) y N bc' all) (fun i _ => N - (intOf i).toNat)
  case atStart => exact ⟨0, 0, rfl, by omega, rfl, hB5⟩
  case round =>
    clear hB5
    obtain ⟨I, m, hI, hIN, rfl, hB⟩ := hrel
    have HI : Hid (I = 64 * m) := hI
    have hTr := T0.new hB.c
    by_cases hlt : I < N
    · have hI64 : I + 64 ≤ N := by omega
      have hsz := hB.c.size
      have hsbl : sb < wr.heap.size := lt_of_blk hB.s
      have hyl : y.block < wr.heap.size := hB.r.below (by omega) y rfl
      have hb0 : (wr.alloc (.cells (byts (fill [] 64)).toArray 24)).heap[wr.heap.size]? = some (.cells (byts (fill ((all.drop I).take 0) 64)).toArray 24 (0, 0)) := heap_alloc_last _ _
      have hB0 := hB.new (chg_one wr (.cells (byts (fill [] 64)).toArray 24))
      rw [HZ64.out] at hb0 hB0
      clear hI hB
      go_wp2_with fail
      generalize hbb : wr.heap.size = bb at *
      clear hbb
      go_loopw [7] (fun i ws => ∃ k : Nat, k ≤ 64 ∧ i = .int .i64 k ∧ ws.heap[bb]? = some (.cells (byts (fill ((all.drop I).take k) 64)).toArray 24 (0, 0)) ∧ Bk w ws sb (Sha.run Sha.I all m) y N bc' all) (fun i _ => 64 - (intOf i).toNat)
      case atStart => exact ⟨0, by omega, rfl, hb0, hB0⟩
      case round =>
        clear hb0 hB0 hTr
        obtain ⟨k, hk, rfl, hb, hB⟩ := hrel
        have hlk := blk_len all I k (by omega)
        by_cases hlt2 : k < 64
        · have cb := byts_cell hb k (by rw [fill_len _ _ (by omega)]; omega)
          have fb : wr.frozen? ⟨bb, k, none⟩ = false := by simp only [World.frozen?, hb]; rfl
          have cy : wr.cell? (y.add (I + k)) = some (.int .u8 (all.getD (I + k) 0 : Nat)) := by
            rcases hB.r.2 with ⟨e, _⟩ | ⟨x, e, hx⟩
            · cases e
            · cases e
              refine hx (I + k) _ ?_
              rw [up_byts]
              exact byts_at all (I + k) (by omega)
          have hlb := Sha.byte_getD hab (I + k)
          have HB1 : Hid ((wr.setCell ⟨bb, k, none⟩ (.int .u8 (all.getD (I + k) 0 : Nat))).heap[bb]? = some (.cells (byts (fill ((all.drop I).take (k + 1)) 64)).toArray 24 (0, 0))) := by
            show _ = _
            have := fill_set ((all.drop I).take k) 64 (all.getD (I + k) 0) (by omega)
            rw [hlk] at this
            rw [blk_setk hb, byts_set, this, blk_take all I k (by omega) hlt2]
          have HB2 : Hid (Bk w (wr.setCell ⟨bb, k, none⟩ (.int .u8 (all.getD (I + k) 0 : Nat))) sb (Sha.run Sha.I all m) y N bc' all) :=
            hB.at ((Chg.refl (fun k => k = bb) wr).setCell (p := ⟨bb, k, none⟩) (.inl rfl) _) (by omega) (by omega) (by omega)
          have hadd : (I : Int) + (k : Int) = ((I + k : Nat) : Int) := by omega
          have hIk : I + k < N := by omega
          generalize all.getD (I + k) 0 = v at *
          generalize (fill ((all.drop I).take k) 64).getD k 0 = z at *
          generalize I + k = J at *
          clear hb hB hlk
          go_wp2
          go_roundw
          case rel => exact ⟨k + 1, by omega, by go_num, HB1.out, HB2.out⟩
          case measure => simp [intOf]; omega
        · have e1 : fill ((all.drop I).take k) 64 = (all.drop I).take 64 := by
            have e64 : k = 64 := by omega
            subst e64
            have := fill_full ((all.drop I).take 64)
            rw [hlk] at this
            exact this
          rw [e1] at hb
          have hl64 := blk_len all I 64 (by omega)
          have hTb := T0.new hB.c
          have hst := Sha.run_st Sha.I_st all m
          have hi8 : (Tryd.prog.info? 23).map (·.size) = some (wds (Sha.run Sha.I all m)).toArray.size := by rw [wds_size, hst.len]; exact infoA8
          have hi64 : (Tryd.prog.info? 24).map (·.size) = some (byts ((all.drop I).take 64)).toArray.size := by rw [byts_size, hl64]; exact infoB64
          have hBs := hB.s
          have hblb : ∀ x ∈ (all.drop I).take 64, x < 256 := (hab.drop I).take 64
          clear e1 hlk
          go_wp2_with (first
            | refine wpList_load_row rfl 23 (.tmp 4) rfl sb rfl 23 _ (0, 0) _ hBs Tryd.underlying23 rfl hi8 ?_
            | refine wpList_load_row rfl 24 (.tmp 6) rfl bb rfl 24 _ (0, 0) _ hb Tryd.underlying24 rfl hi64 ?_)
          refine (step_any _ _ wr hTb.k hst hl64 hblb).mono ?_
          rintro e w6 ⟨rfl, c6⟩
          have hB6 := hB.new c6
          have hBs6 := hB6.s
          have hst6 := Sha.step_st (Sha.run Sha.I all m) ((all.drop I).take 64)
          have hi6 : (Tryd.prog.info? 23).map (·.size) = some (wds (Sha.step (Sha.run Sha.I all m) ((all.drop I).take 64))).toArray.size := by rw [wds_size, hst6.len]; exact infoA8
          have hz6 : (wds (Sha.run Sha.I all m)).toArray.size = (wds (Sha.step (Sha.run Sha.I all m) ((all.drop I).take 64))).toArray.size := by rw [wds_size, wds_size, hst6.len, hst.len]
          have HB7 : Hid (Bk w (w6.setRow sb (wds (Sha.step (Sha.run Sha.I all m) ((all.drop I).take 64))).toArray) sb (Sha.run Sha.I all (m + 1)) y N bc' all) := by
            refine ⟨?_, row8_keep hB6.r (chg_setRow _ _ _) (fun z e => by cases e; exact hyne), hB6.c.trans (chg_setRow _ _ _) (fun i e => .inr (by omega))⟩
            rw [setRow_heap _ _ _ _ _ _ hBs6]
            show _ = some (Obj.cells (wds (Sha.step (Sha.run Sha.I all m) ((all.drop (64 * m)).take 64))).toArray 23 (0, 0))
            rw [HI.out]
          clear hb hB hTb hst hi8 hi64 hBs hblb c6 hB6 hl64 hst6
          go_wp2_with (refine wpList_store_row rfl 23 (.tmp 4) (.tmp 45) rfl sb _ rfl rfl 23 _ hBs6 hi6 hz6 (wds_one _) ?_)
          go_roundw
          case rel => exact ⟨I + 64, m + 1, by have := HI.out; omega, by omega, by go_num, HB7.out⟩
          case measure => simp [intOf]; omega
    · have hm : m = all.length / 64 := by omega
      have hS : Sha.run Sha.I all m = Sha.eat Sha.I all := by rw [hm]; rfl
      rw [hS] at hB
      have hst := Sha.eat_st Sha.I_st all
      have hrA := row8_chg r_a hB.c
      clear hm hS hI HI
      have hBs := hB.s
      have hC := hB.c
      clear hB
      generalize hSS : Sha.eat Sha.I all = S at *
      clear hSS
      go_wp2_with fail
      have pp := pieces_one 29 ⟨_, _, _, rfl, hrA, hba, hca⟩
      have cc := chg_one wr (.cells #[.slice a la ca] 29)
      generalize hwx : wr.alloc (.cells #[.slice a la ca] 29) = w7 at *
      clear hwx
      have hC7 := chg_then hC cc
      have hB7 := blk_keep hBs cc (fun f => f)
      have hT7 := T0.new hC7
      clear hC hBs cc hrA hTr
      refine (sum_some _ 1 1 [xa] w7 hT7 pp rfl (by decide) (by simp <;> omega)).mono ?_
      rintro e w8 ⟨rfl, c8⟩
      rw [E1, HD.out]
      have hC8 := chg_then hC7 c8
      have hB8 := blk_keep hB7 c8 (fun f => f)
      clear pp hC7 hB7 hT7 c8
      have hr8 : (w8.alloc (.cells (byts (List.replicate 32 0)).toArray 33)).heap[w8.heap.size]? = some (.cells (byts (List.replicate 32 0)).toArray 33 (0, 0)) := heap_alloc_last _ _
      have hset := World.setRow_alloc_new w8 (byts (List.replicate 32 0)).toArray (byts (Sha.told S)).toArray 33
      have hi8 : (Tryd.prog.info? 33).map (·.size) = some (byts (Sha.told S)).toArray.size := by rw [byts_size, Sha.told_len]; exact infoB32
      have hz8 : (byts (List.replicate 32 0)).toArray.size = (byts (Sha.told S)).toArray.size := by rw [byts_size, byts_size, Sha.told_len]; rfl
      rw [HZ32.out] at hr8 hset hz8
      have hb9 : (w8.alloc (.cells (byts (Sha.told S)).toArray 33)).heap[w8.heap.size]? = some (.cells (byts (Sha.told S)).toArray 33 (0, 0)) := heap_alloc_last _ _
      have hB9 := blk_keep hB8 (chg_one w8 (.cells (byts (Sha.told S)).toArray 33)) (fun f => f)
      have hC9 := chg_then hC8 (chg_one w8 (.cells (byts (Sha.told S)).toArray 33))
      go_wp2_with (refine wpList_store_row rfl 33 (.tmp 8) (.tmp 48) rfl w8.heap.size _ rfl rfl 33 _ hr8 hi8 hz8 (byts_one _) ?_)
      clear hr8 hset hi8 hz8 hB8 hC8
      generalize w8.alloc (.cells (byts (Sha.told S)).toArray 33) = w9 at *
      generalize w8.heap.size = tb at *
      go_loopw [9] (fun i ws => ∃ k : Nat, k ≤ 32 ∧ i = .int .i64 k ∧ ws.heap[tb]? = some (.cells (byts (Sha.told S)).toArray 33 (0, 0)) ∧ ws.heap[sb]? = some (.cells (wds S).toArray 23 (0, 0)) ∧ Chg (fun _ => False) w ws) (fun i _ => 32 - (intOf i).toNat)
      case atStart => exact ⟨0, by omega, rfl, hb9, hB9, hC9⟩
      case round =>
        clear hb9 hB9 hC9
        obtain ⟨k, hk, rfl, hb, hB, hC⟩ := hrel
        by_cases hlt3 : k < 32
        · have ct := byts_cell hb k (by rw [Sha.told_len]; exact hlt3)
          have cs := wds_cell hB (k / 4) (by rw [hst.len]; omega)
          have ls := hst.wds.getD (k / 4)
          have hv : (Sha.told S).getD k 0 = S.getD (k / 4) 0 / 2 ^ (24 - 8 * (k % 4)) % 256 := by
            rw [Nat.mul_comm 8]
            simp [Sha.told, hlt3]
          have hV : ((S.getD (k / 4) 0 : Nat) : Int) / 2 ^ (24 - 8 * (k % 4)) % 256 = (((Sha.told S).getD k 0 : Nat) : Int) := by
            rw [hv]
            simp
          have HB : Hid (wr.heap[tb]? = some (.cells (byts (Sha.told S)).toArray 33 (0, 0))) := hb
          have HS : Hid (wr.heap[sb]? = some (.cells (wds S).toArray 23 (0, 0))) := hB
          have HC : Hid (Chg (fun _ => False) w wr) := hC
          clear hv hb hB hC hst
          generalize S.getD (k / 4) 0 = x at *
          generalize (Sha.told S).getD k 0 = z at *
          go_wp2_with fail
          go_quiet (fail)
          go_wp2
          go_roundw
          case rel => exact ⟨k + 1, by omega, by go_num, HB.out, HS.out, HC.out.os, HC.out.tape, HC.out.output, HC.out.size, HC.out.block⟩
          case measure => simp [intOf]; omega
        · clear hb hB
          go_wp2
          go_ret
          exact ⟨rfl, hC⟩
set_option maxRecDepth 100000 in
theorem lifted (os : Os) (started : os.Started) (H : Type) (enc : TypeId × Value → H) :
    ReturnsInHanded {} Tryd.checked os 4 .any (fun w args => (Rows.shaBlocksSpec.pre enc Tryd.prog Tryd.f4 [] false w args ∧ laidMetH Tryd.prog [("pith/sha.first", Rows.laid_pith_sha_first), ("pith/sha.constants", Rows.laid_pith_sha_constants)] w) ∧ sizedMet enc Tryd.prog Tryd.f4 (OpenSpec.ofChange Rows.shaBlocksSpec) false w args)
      (Rows.shaBlocksSpec.post enc Tryd.prog Tryd.f4 false true false false) := by
  refine returnsInHanded_of_change_and (C := Tryd.checked) (X := fun w _ => laidMetH Tryd.prog [("pith/sha.first", Rows.laid_pith_sha_first), ("pith/sha.constants", Rows.laid_pith_sha_constants)] w) (fun _ _ _ hh h => h.of_heap hh) own started (by kernel_rfl) Tryd.func4
    (ChangeSpec.witness_shaped (enc := enc) (C := Tryd.checked) (os := os) (X := fun w _ => laidMetH Tryd.prog [("pith/sha.first", Rows.laid_pith_sha_first), ("pith/sha.constants", Rows.laid_pith_sha_constants)] w) false (World.doorLaid Tryd.prog 400 os) #[.slice none 0 0] 8 rfl (World.shaped_of_RefB (by kernel_rfl) (by kernel_rfl)) (by kernel_rfl) (by kernel_rfl) (by kernel_rfl) (door_met os _)) ?_
  intro W base args ds gs before hval0 hW _ hsz0 hL _
  have hsz : (DataW.weightsEach Tryd.prog (Tryd.f4.params.toList ++ Rows.shaBlocksSpec.plain.varTypes Tryd.prog) (ds ++ gs)).all (· ≤ reachBytes) = true := hsz0
  clear hsz0
  have hT := tab_of_laid hL
  have hval : ∀ (j : Nat) t v, Tryd.f4.params[j]? = some t → args[j]? = some v → Value.okWide Tryd.prog W .any base t v := hval0
  have hW' := hW
  obtain ⟨p, q, hA0, hV, rfl, hfz, hnd⟩ := hW
  have hA : DataW.TrodAll enc Tryd.prog W 0 (fun _ => true) true Tryd.f4.params.toList args.toList ds p := hA0
  rw [Tryd.params4] at hA hval hsz
  obtain ⟨v0, vs0, d0, ds0, p0, q0, hargs, rfl, rfl, h0, r0⟩ := trodAll_cons hA
  obtain ⟨rfl, rfl, rfl⟩ := trodAll_nil r0
  obtain rfl : args = #[v0] := by cases args; simp_all
  obtain ⟨rfl, rfl⟩ := trodVars_none hV
  obtain ⟨a0, len0, cap0, rfl⟩ := okWide_slice Tryd.underlying29 (hval 0 29 v0 rfl rfl)
  have k0 := h0
  have lt0 : ∀ x ∈ p0, x.block < W.heap.size := by obtain ⟨m, hm⟩ := k0; exact DataW.trod_lt m _ _ _ hm
  obtain ⟨xs0, hx0, hy0, hl0, hcap0⟩ := open8 h0 (fun elems spare e => by subst e; exact sized_slice hsz (j := 0) (t := 29) (e := 5) rfl rfl Tryd.underlying29)
  clear hA0 hval0
  refine (walk a0 len0 cap0 xs0 W hT hx0 hy0 hl0 (by omega)).mono fun e W' ⟨he, hCC⟩ => ?_
  subst he
  have bel := below_of hCC
  exact ⟨_, rfl, _, _, _, [], _, [], hW', trodAll_mk1 (shut_bool Tryd.underlying4 _), (trodAll_cons_mk (Below.trod laidOut (by kernel_rfl) (of_decide_eq_true (by kernel_rfl)) k0 bel lt0) trodAll_mk0), rfl, bel.frame _, fun h => by cases h⟩

theorem over : Rows.ShaBlocksSaid :=
  OpenClaim.holds_of_wide 4 Tryd.f4 rfl rfl rfl rfl rfl rfl rfl ⟨rfl, rfl, rfl, rfl, rfl⟩ rfl rfl rfl rfl rfl (by kernel_rfl) Tryd.func4 (by kernel_rfl)
    (of_decide_eq_true (by kernel_rfl)) (by unfold Func.isWrapper; first | (rw [if_pos (by decide +kernel)]; kernel_rfl) | (rw [if_neg (by decide +kernel)]; exact ⟨rfl, rfl⟩))
    (fun os started H enc _ => lifted os started H enc)

theorem card : Rows.ShaBlocksCardSaid :=
  Claim7.holds_tied_plain_at .later [] [.data, .data] true (true, "8b1ae774ebd725d4824cf407a67ed38f8bdfd295c11d528f2d51c47d3ae0cc53") false
    over (fun _ h => by cases h) (by kernel_rfl) (fun _ h => by cases h) shaBlocks_row_tie rfl ⟨rfl, rfl⟩ (by kernel_rfl) rfl
    (fun f fn hf hfn => by
      obtain rfl : f = 4 := Option.some.inj ((show Tryd.prog.funcNamed "pith/pithlaw04.ShaBlocks" = some 4 by kernel_rfl).symm.trans hf) |>.symm
      obtain rfl : fn = Tryd.f4 := (Option.some.inj (Tryd.func4.symm.trans hfn)).symm
      exact ⟨by kernel_rfl, fun j t ht => by
        rw [Tryd.params4] at ht
        have hm : t ∈ [29] := by simpa using Array.mem_of_getElem? ht
        have hall : ([29].all fun u => !Tryd.prog.wantsStandIn u) = true := by kernel_rfl
        exact (show Tryd.prog.wantsStandIn t = false by simpa using List.all_eq_true.1 hall t hm)⟩)
    (by kernel_rfl)
end Go.Proofs.YtnedllhlmddmoaaDoor.shaBlocks
namespace Go.Proofs.YtnedllhlmddmoaaDoor
theorem shaBlocks_holds : Rows.ShaBlocksCardSaid := shaBlocks.card
#print axioms shaBlocks_holds
end Go.Proofs.YtnedllhlmddmoaaDoor
