/- The document's own hashes: the contracts of First, New, Len, Sum; of no statement by themselves. -/
import Derived.Test.YtnedllhlmddmoabDoorRefP
import Derived.Test.YtnedllhlmddmoabDoorRefS
import Derived.Test.YtnedllhlmddmoabDoorEq
namespace Go.Proofs.YtnedllhlmddmoabDoor
open Go.RowKit
set_option linter.unusedVariables false

/-- A reference's cells. -/
def rcells (s : List Nat) (n : Nat) (v : Value) : List Value := wds s ++ [.int .i64 (n : Int), v]

theorem rcells_len {s : List Nat} (hs : s.length = 8) (n : Nat) (v : Value) : (rcells s n v).length = 10 := by simp [rcells, wds, hs]

/-- A reference in memory: its first state, how many bytes were ahead, its bytes. -/
structure Rh (w : World) (a : Nat) (s : List Nat) (n : Nat) (v : Value) (bs : List Nat) : Prop where
  blk : w.heap[a]? = some (.cells (rcells s n v).toArray 47 (0, 0))
  s8 : s.length = 8
  row : ∃ ad c, v = .slice ad bs.length c ∧ Row8 w ad bs.length c (up bs)

theorem Rh.new {w w' : World} {a n : Nat} {s bs : List Nat} {v : Value} (h : Rh w a s n v bs) (hc : Chg (fun _ => False) w w') : Rh w' a s n v bs := by
  obtain ⟨ad, c, e, hr⟩ := h.row
  exact ⟨blk_keep h.blk hc (fun f => f), h.s8, ad, c, e, row8_chg hr hc⟩

theorem Rh.ahead {w : World} {a n : Nat} {s bs : List Nat} {v : Value} (h : Rh w a s n v bs) : w.cell? ⟨a, 8, none⟩ = some (.int .i64 (n : Int)) := by
  rw [cell_of_row _ a 8 _ _ _ h.blk]
  have h1 := h.s8
  simp [rcells, wds, h1]

theorem Rh.list {w : World} {a n : Nat} {s bs : List Nat} {v : Value} (h : Rh w a s n v bs) : w.cell? ⟨a, 9, none⟩ = some v := by
  rw [cell_of_row _ a 9 _ _ _ h.blk]
  have h1 := h.s8
  simp [rcells, wds, h1]

theorem Rh.state {w : World} {a n : Nat} {s bs : List Nat} {v : Value} (h : Rh w a s n v bs) : ∀ j u, (wds s)[j]? = some u → w.cell? ((⟨a, 0, none⟩ : Addr).add j) = some u := by
  intro j u hu
  rw [addk, Nat.zero_add, cell_of_row _ a j _ _ _ h.blk]
  have hj := (List.getElem?_eq_some_iff.1 hu).1
  simp only [List.getElem?_toArray, rcells]
  rw [List.getElem?_append_left hj]
  exact hu

/-- The first state of a reference. -/
def Rh0 (w : World) (a : Nat) (s : List Nat) : Prop := ∃ l, w.heap[a]? = some (.cells (wds s ++ l).toArray 47 (0, 0)) ∧ s.length = 8
theorem Rh0.state {w : World} {a : Nat} {s : List Nat} (h : Rh0 w a s) : ∀ j u, (wds s)[j]? = some u → w.cell? ((⟨a, 0, none⟩ : Addr).add j) = some u := by
  intro j u hu
  obtain ⟨l, h, _⟩ := h
  rw [addk, Nat.zero_add, cell_of_row _ a j _ _ _ h]
  have hj := (List.getElem?_eq_some_iff.1 hu).1
  simp only [List.getElem?_toArray]
  rw [List.getElem?_append_left hj]
  exact hu

/-- The constants' block lies below. -/
def W64b (v : Value) (n : Nat) : Prop := ∃ x c, v = .slice (some x) 64 c ∧ x.block < n
theorem add_block (x : Addr) (k : Nat) : (x.add k).block = x.block := by unfold Addr.add; split <;> rfl
theorem W64.below {w : World} {v : Value} {l : List Nat} (h : W64 w v l) : W64b v w.heap.size := by
  obtain ⟨x, c, e, h⟩ := h
  have := World.block_lt_of_cell? w _ (h 0 (by omega))
  rw [add_block] at this
  exact ⟨x, c, e, this⟩
theorem W64.at {w w' : World} {v : Value} {l : List Nat} {n : Nat} (h : W64 w v l) (hc : Chg (fun k => k = n) w w') (hb : W64b v n) : W64 w' v l := by
  obtain ⟨x, c, e, h⟩ := h
  obtain ⟨x', c', e', hb⟩ := hb
  rw [e] at e'
  cases e'
  refine ⟨x, c, e, fun k hk => ?_⟩
  have h1 := h k hk
  rw [World.cell?_of_block (w := w) (hc.block _ (World.block_lt_of_cell? w _ h1) (by rw [add_block]; omega))]
  exact h1

theorem slice_lh8 (w : World) (y : Option Addr) (n c lo hi : Nat) (h1 : lo ≤ hi) (h2 : hi ≤ c) : (Instr.sliceAt 24 (.slice y n c) (some (.int .i64 (lo : Int))) (some (.int .i64 (hi : Int))) none).run Tryd.prog w = .ok (.slice (if c = lo then y else y.map (·.add lo)) (hi - lo) (c - lo)) w := by
  have h0 := run_slice_lh (P := Tryd.prog) w 24 y n c Tryd.underlying24 .i64 .i64 (lo : Int) (hi : Int) (by omega) (by omega) (by omega)
  have h3 : (sizeOf (Tryd.prog.elem 24)).run Tryd.prog w = .ok 1 w := one_size (by kernel_rfl) w
  rw [run_sliceAt_slice (P := Tryd.prog) w 24 _ _ _ _ Tryd.underlying24, h0, h3]
  simp only [Result.andThen_ok, sliced, Int.toNat_natCast, Nat.mul_one]

theorem row8_cut {w : World} {ad : Option Addr} {m c : Nat} {xs : List Int} (h : Row8 w ad m c xs) (hmc : m ≤ c) (lo n c' : Nat) (hn : lo + n ≤ m) (hc' : c = 0 → c' = 0) :
    Row8 w (if c = lo then ad else ad.map (·.add lo)) n c' ((xs.drop lo).take n) := by
  have hl := h.1
  refine ⟨by simp; omega, ?_⟩
  rcases h.2 with ⟨rfl, rfl, rfl⟩ | ⟨x, rfl, hx⟩
  · refine .inl ⟨by simp, by omega, hc' rfl⟩
  · by_cases e : c = lo
    · rw [if_pos e]
      have hn0 : n = 0 := by omega
      subst hn0
      exact .inr ⟨x, rfl, fun j u hu => by simp at hu⟩
    · rw [if_neg e]
      refine .inr ⟨_, rfl, fun j u hu => ?_⟩
      rw [List.map_take, List.map_drop, List.getElem?_take] at hu
      split at hu
      · rw [List.getElem?_drop] at hu
        have := hx (lo + j) u hu
        rw [← this]
        congr 1
        unfold Addr.add
        by_cases h1 : lo = 0
        · subst h1; simp
        · by_cases h2 : j = 0
          · subst h2; simp [h1]
          · simp [h1, h2, Nat.add_assoc]
      · cases hu

theorem first_any (w : World) : Calls Tryd.prog 19 #[] w fun e w' => e = .returned (.agg (wds Sha.I).toArray) ∧ Chg (fun _ => False) w w' := by
  have h0 : (w.alloc (.cells #[.int .u32 0, .int .u32 0, .int .u32 0, .int .u32 0, .int .u32 0, .int .u32 0, .int .u32 0, .int .u32 0] 45)).heap[w.heap.size]? = some (.cells #[.int .u32 0, .int .u32 0, .int .u32 0, .int .u32 0, .int .u32 0, .int .u32 0, .int .u32 0, .int .u32 0] 45 (0, 0)) := heap_alloc_last _ _
  go_enter Tryd.func19, Tryd.ntmps19
  go_wp2_with (refine wpList_store_row rfl 45 (.tmp 0) (.tmp 1) rfl w.heap.size (wds Sha.I).toArray rfl rfl 45 _ h0 infoA8 rfl (wds_one _) ?_)
  (try simp only [Exit.inBlock, Exit.then])
  refine bodyPost_ret (results_cell_row rfl _ _ w.heap.size 45 (wds Sha.I).toArray (0, 0) _ rfl (setRow_heap _ _ _ _ _ _ h0) Tryd.underlying45 rfl infoA8) rfl ⟨rfl, ?_⟩
  exact (chg_one _ _).trans (chg_setRow _ _ _) (fun b hb => .inr (by omega))

theorem built_ref : Tryd.prog.built 47 [(0, .agg (wds Sha.I).toArray)] = some (rcells Sha.I 0 (.slice none 0 0)).toArray := by kernel_rfl
theorem built_ref' (a : Act) (h : a.eval (.tmp 1) = .agg (wds Sha.I).toArray) : Tryd.prog.built 47 ((#[((0 : Nat), Operand.tmp 1)].map fun (i, x) => (i, a.eval x)).toList) = some (rcells Sha.I 0 (.slice none 0 0)).toArray := by
  have e : ((#[((0 : Nat), Operand.tmp 1)].map fun (i, x) => (i, a.eval x)).toList) = [(0, .agg (wds Sha.I).toArray)] := by simp [h]
  rw [e]
  exact built_ref

theorem refnew_any (w : World) : Calls Tryd.prog 12 #[] w fun e w' => ∃ a, e = .returned (.pointer (some ⟨a, 0, none⟩)) ∧ w.heap.size ≤ a ∧ Rh w' a Sha.I 0 (.slice none 0 0) [] ∧ Chg (fun _ => False) w w' := by
  go_enter Tryd.func12, Tryd.ntmps12
  go_wp2_with fail
  refine (first_any w).mono ?_
  rintro e w1 ⟨rfl, c1⟩
  go_wp2_with (refine wpList_buildTo rfl 47 #[(0, .tmp 1)] rfl (some 2) rfl (rcells Sha.I 0 (.slice none 0 0)).toArray (built_ref' _ rfl) ?_)
  go_ret
  exact ⟨_, rfl, c1.size, ⟨heap_alloc_last _ _, rfl, none, 0, rfl, rfl, .inl ⟨rfl, rfl, rfl⟩⟩, chg_then c1 (chg_one _ _)⟩

set_option maxHeartbeats 8000000 in
set_option maxRecDepth 100000 in
theorem rhsum_any (a : Nat) (s0 : List Nat) (n0 : Nat) (v : Value) (bs : List Nat) (w : World) (hs : Sha.St s0) (hn0 : n0 % 64 = 0) (hR : Rh w a s0 n0 v bs) (hbb : Byt bs) (hN : n0 + bs.length < 2305843009213693952) (hN2 : bs.length ≤ 140737488351232) :
    Calls Tryd.prog 15 #[.pointer (some ⟨a, 0, none⟩)] w fun e w' => e = .returned (.agg (byts (Sha.sum s0 n0 bs)).toArray) ∧ Chg (fun _ => False) w w' := by
  obtain ⟨i0, hi, hz0, hz1, hz2⟩ := info_parts info5
  have HZ32 : Hid ((byts (List.replicate 32 0)).toArray = #[.int .u8 0, .int .u8 0, .int .u8 0, .int .u8 0, .int .u8 0, .int .u8 0, .int .u8 0, .int .u8 0, .int .u8 0, .int .u8 0, .int .u8 0, .int .u8 0, .int .u8 0, .int .u8 0, .int .u8 0, .int .u8 0, .int .u8 0, .int .u8 0, .int .u8 0, .int .u8 0, .int .u8 0, .int .u8 0, .int .u8 0, .int .u8 0, .int .u8 0, .int .u8 0, .int .u8 0, .int .u8 0, .int .u8 0, .int .u8 0, .int .u8 0, .int .u8 0]) := rfl
  have c0 := chg_one w (.cells (byts (List.replicate 32 0)).toArray 27)
  have hR1 := hR.new c0
  have hr1 : (w.alloc (.cells (byts (List.replicate 32 0)).toArray 27)).heap[w.heap.size]? = some (.cells (byts (List.replicate 32 0)).toArray 27 (0, 0)) := heap_alloc_last _ _
  clear hR
  rw [HZ32.out] at c0 hR1 hr1
  generalize hw1 : w.alloc (.cells #[.int .u8 0, .int .u8 0, .int .u8 0, .int .u8 0, .int .u8 0, .int .u8 0, .int .u8 0, .int .u8 0, .int .u8 0, .int .u8 0, .int .u8 0, .int .u8 0, .int .u8 0, .int .u8 0, .int .u8 0, .int .u8 0, .int .u8 0, .int .u8 0, .int .u8 0, .int .u8 0, .int .u8 0, .int .u8 0, .int .u8 0, .int .u8 0, .int .u8 0, .int .u8 0, .int .u8 0, .int .u8 0, .int .u8 0, .int .u8 0, .int .u8 0, .int .u8 0] 27) = w1 at *
  have hlist := hR1.list
  obtain ⟨ad, c, rfl, hrow⟩ := hR1.row
  obtain ⟨N, HN⟩ : ∃ N, Hid (n0 + bs.length = N) := ⟨_, rfl⟩
  obtain ⟨lb, HLB⟩ : ∃ lb, Hid (bs.length = lb) := ⟨_, rfl⟩
  rw [HN.out] at hN
  rw [HLB.out] at hR1 hlist hrow hN2
  have HV : Hid (Sha.sum s0 n0 bs = Sha.told (Sha.eat s0 (bs ++ Sha.pad N))) := by show _ = _; rw [← HN.out]; rfl
  have hnil := World.ownsRow_nil w1 w1.heap.size 5 1
  go_enter Tryd.func15, Tryd.ntmps15
  go_wp2_with (at_builtin; refine wpList_append_moved rfl _ _ 24 rfl w1.heap.size 5 i0 (.int .u8 0) 1 1 Tryd.underlying24 hi hz0 hz1 hz2 rfl (by decide) _ 0 [] rfl ad lb c rfl (cells8 (up bs)) hnil hrow.src (oneCells _) (by unfold maxLen; omega) (by omega) (Nat.le_refl _) ?_)
  intro v2 w2 ho2 hg2 _
  have c2 : Chg (fun _ => False) w1 w2 := (Chg.refl _ w1).grown hg2 (fun k e => by cases e)
  obtain ⟨ba, bc, rfl⟩ := own_form ho2
  have hR2 := hR1.new c2
  have hR2_size : Hid (w1.heap.size ≤ w2.heap.size) := c2.size
  have hr2 := blk_keep hr1 c2 (fun f => f)
  have c02 := chg_then c0 c2
  have hl2 := hR2.list
  have ha2 := hR2.ahead
  have hadd : (n0 : Int) + (lb : Int) = (N : Int) := by have := HN.out; have h2 := HLB.out; omega
  have hwN : IntKind.i64.wrap (N : Int) = (N : Int) := by simp [IntKind.wrap, IntKind.signed, IntKind.bits]; omega
  have HW : Hid (w.heap.size < w1.heap.size) := lt_of_blk hr1
  have HA : Hid (a < w1.heap.size) := lt_of_blk hR1.blk
  clear hnil hg2 hR1 hlist hrow hr1 c0 c2 hw1
  have hB2 : w1.heap.size ≤ w2.heap.size := hR2_size.out
  have hlp := Sha.pad_len N
  have hpl := Sha.padlen_le N
  have hpg := Sha.padlen_ge N
  have hpm := Sha.padlen_mod N
  have hpb : Byt (Sha.pad N) := Sha.pad_byt N
  have HPad := fun w => refpad_any N w (by omega)
  generalize Sha.pad N = xp at *
  generalize Sha.padlen N = lp at *
  go_wp2_with fail
  go_region_law (first
    | (refine step_append_moved (by rfl) (.tmp 15) (.tmp 26) 24 (by rfl) w1.heap.size 5 i0 (.int .u8 0) 1 1 Tryd.underlying24 hi hz0 hz1 hz2 rfl (by decide) _ lb (cells8 (up bs)) (by rfl) pad_ lp pc (by rfl) (cells8 (up xp)) ho3 hprow.src (oneCells _) (by unfold maxLen; omega) (by omega) hB3 ?_; intro v4 w4 ho4 hg4 hm4)
    | (go_simp; refine (HPad _).mono ?_; rintro e w3 ⟨pad_, pc, rfl, hprow, c3⟩; have hW3 : Chg (fun _ => False) w2 w3 := (Chg.refl (fun _ => False) w2).drew.trans c3 (fun _ f => f.elim); have ho3 := ownsRow_keep ho2 hW3 (fun _ _ f => f); have hB3 : w1.heap.size ≤ w3.heap.size := Nat.le_trans hB2 hW3.size))
  all_goals (
    rw [cells8_append, ← up_append] at ho4
    obtain ⟨aa, ac, rfl, hrow, hle, hblk⟩ := own_row8d ho4
    have C3 := chg_then c02 hW3
    have C4 : Chg (fun _ => False) w w4 := C3.grown hg4 (fun k e => .inr (Nat.le_trans (Nat.le_of_lt HW.out) ((ho3.lt k e).1)))
    have cg : Chg (fun k => (Value.slice ba lb bc).ownBlock = some k) w3 w4 := (Chg.refl _ w3).grown hg4 (fun k e => .inl e)
    have hz4 := blk_keep (blk_keep hr2 hW3 (fun f => f)) cg (fun e => by have := (ho3.lt _ e).1; have := HW.out; omega)
    have hR4 := blk_keep (blk_keep hR2.blk hW3 (fun f => f)) cg (fun e => by have := (ho3.lt _ e).1; have := HA.out; omega)
    obtain ⟨y, rfl⟩ : ∃ y, aa = some y := by
      rcases hrow.2 with ⟨_, h0, _⟩ | ⟨x, e, _⟩
      · omega
      · exact ⟨x, e⟩
    have hab : Byt (bs ++ xp) := hbb.append hpb
    have hal : (bs ++ xp).length = lb + lp := by rw [List.length_append, HLB.out, hlp]
    have HM : Hid ((lb + lp) % 64 = 0) := by have h1 := HN.out; have h2 := HLB.out; show _ = _; omega
    have hM1 : lb + lp ≤ 140737488351232 + 72 := by omega
    have hM0 : 0 < lb + lp := by omega
    clear hpm hpl hpg HPad hlp hpb ho4 ho3 hg4 cg C3 hW3 c3 hprow ho2 hR2 hr2 hl2 ha2 hB2 hB3 hblk
    generalize bs ++ xp = all at *
    generalize lb + lp = M at *
    have hi8 : (Tryd.prog.info? 45).map (·.size) = some (wds s0).length := by rw [wds_len, hs.len]; exact infoA8
    have hi8' : (Tryd.prog.info? 45).map (·.size) = some (wds s0).toArray.size := by rw [wds_size, hs.len]; exact infoA8
    go_simp
    go_wp2_with fail
    refine (constants_any w4).mono ?_
    rintro e w5 ⟨kv, rfl, hK5, c5⟩
    have C5 := chg_then C4 c5
    have hz5 := blk_keep hz4 c5 (fun f => f)
    have hR5 : Rh0 w5 a s0 := ⟨_, blk_keep hR4 c5 (fun f => f), hs.len⟩
    have hrow5 := row8_chg hrow c5
    have hylt : y.block < w5.heap.size := hrow5.below (by omega) y rfl
    have hs0 : (w5.alloc (.cells #[.int .u32 0, .int .u32 0, .int .u32 0, .int .u32 0, .int .u32 0, .int .u32 0, .int .u32 0, .int .u32 0] 45)).heap[w5.heap.size]? = some (.cells #[.int .u32 0, .int .u32 0, .int .u32 0, .int .u32 0, .int .u32 0, .int .u32 0, .int .u32 0, .int .u32 0] 45 (0, 0)) := heap_alloc_last _ _
    have hset := World.setRow_alloc_new w5 #[.int .u32 0, .int .u32 0, .int .u32 0, .int .u32 0, .int .u32 0, .int .u32 0, .int .u32 0, .int .u32 0] (wds s0).toArray 45
    have hst5 := hR5.state
    have hz8 : (wds s0).toArray.size = 8 := by rw [wds_size, hs.len]
    have cn := chg_one w5 (.cells (wds s0).toArray 45)
    have hB6 : (w5.alloc (.cells (wds s0).toArray 45)).heap[w5.heap.size]? = some (.cells (wds (Sha.run s0 all 0)).toArray 45 (0, 0)) := heap_alloc_last _ _
    have hsz6 : w.heap.size ≤ w5.heap.size := C5.size
    have hzlt : w.heap.size < w5.heap.size := lt_of_blk hz5
    go_wp2_with (first
      | refine wpList_load_part rfl 45 (.tmp 31) rfl ⟨a, 0, none⟩ rfl _ _ hst5 Tryd.underlying45 rfl hi8 ?_
      | refine wpList_store_row rfl 45 (.tmp 5) (.tmp 32) rfl w5.heap.size (wds s0).toArray rfl rfl 45 _ hs0 hi8' (by rw [hz8]; rfl) (wds_one _) ?_)
    have C6 := chg_then C5 cn
    have hz6 := blk_keep hz5 cn (fun f => f)
    have hrow6 := row8_chg hrow5 cn
    have hK6 := hK5.new cn
    have hKlt : W64b kv w5.heap.size := hK5.below
    clear hs0 hset hst5 hR5 hR4 hz4 hz5 hrow hrow5 hK5 C4 C5 c5 cn
    generalize w5.alloc (.cells (wds s0).toArray 45) = w6 at *
    generalize w5.heap.size = sb at *
    go_loopw [6] (fun i wr => ∃ I m : Nat, I = 64 * m ∧ I ≤ M ∧ i = .int .i64 I ∧ wr.heap[sb]? = some (.cells (wds (Sha.run s0 all m)).toArray 45 (0, 0)) ∧ Chg (fun k => k = sb) w6 wr) (fun i _ => M - (intOf i).toNat)
    case atStart => exact ⟨0, 0, rfl, by omega, rfl, hB6, Chg.refl _ _⟩
    case round =>
      clear hB6
      obtain ⟨I, m, hI, hIM, rfl, hB, hC⟩ := hrel
      have HI : Hid (I = 64 * m) := hI
      by_cases hlt : I < M
      · have hI64 : I + 64 ≤ M := by have := HM.out; omega
        have hs1 : ∀ w, (Instr.sliceAt 24 (.slice (some y) M ac) (some (.int .i64 (I : Int))) (some (.int .i64 ((I + 64 : Nat) : Int))) none).run Tryd.prog w = .ok (.slice (some (y.add I)) 64 (ac - I)) w := fun w => by
          have h := slice_lh8 w (some y) M ac I (I + 64) (by omega) (by omega)
          rw [if_neg (by omega), show I + 64 - I = 64 by omega] at h
          exact h
        have hs2 := fun w => (run_sliceAt_slice (P := Tryd.prog) w 24 (.slice (some y) M ac) (some (.int .i64 (I : Int))) (some (.int .i64 ((I + 64 : Nat) : Int))) none Tryd.underlying24).symm.trans (hs1 w)
        have hst := Sha.run_st hs all m
        have hry : Row8 wr (some (y.add I)) 64 (ac - I) (up ((all.drop I).take 64)) := by
          have h := row8_cut (row8_keep hrow6 hC (fun z e => by cases e; omega)) hle I 64 (ac - I) (by omega) (by omega)
          rw [if_neg (by omega)] at h
          rw [up_take, up_drop]
          exact h
        have hbl : ∀ x ∈ (all.drop I).take 64, x < 256 := (hab.drop I).take 64
        have hKr : W64 wr kv Sha.K := hK6.at hC hKlt
        have HStep : Hid (∀ w, Chg (fun _ => False) wr w → Calls Tryd.prog 23 #[.agg (wds (Sha.run s0 all m)).toArray, .slice (some (y.add I)) 64 (ac - I), kv] w fun e w' => e = .returned (.agg (wds (Sha.step (Sha.run s0 all m) ((all.drop I).take 64))).toArray) ∧ Chg (fun _ => False) w w') :=
          fun w hc => refstep_any _ _ _ _ _ w hst (row8_chg hry hc) hbl (hKr.new hc)
        have HR : Hid (Sha.run s0 all (m + 1) = Sha.step (Sha.run s0 all m) ((all.drop I).take 64)) := by show _ = _; rw [HI.out]; rfl
        have hst1 := Sha.step_st (Sha.run s0 all m) ((all.drop I).take 64)
        have hi8 : (Tryd.prog.info? 45).map (·.size) = some (wds (Sha.run s0 all m)).toArray.size := by rw [wds_size, hst.len]; exact infoA8
        have hadd : (I : Int) + 64 = ((I + 64 : Nat) : Int) := by omega
        have hl8 := hst.len
        clear hI hst hry hbl hKr
        generalize Sha.step (Sha.run s0 all m) ((all.drop I).take 64) = S1 at *
        generalize Sha.run s0 all m = S at *
        obtain ⟨I2, HI2⟩ : ∃ I2, Hid (I + 64 = I2) := ⟨_, rfl⟩
        rw [HI2.out] at hadd hI64
        simp only [HI2.out] at hs1 hs2
        have hb2 : I2 ≤ 140737488351232 + 72 := by omega
        have wI : IntKind.i64.wrap (I2 : Int) = (I2 : Int) := by simp [IntKind.wrap, IntKind.signed, IntKind.bits]; omega
        have HCh : Hid (Chg (fun k => k = sb) w6 wr) := hC
        clear hC
        generalize y.add I = y' at *
        generalize ac - I = ac' at *
        go_wp2_with fail
        generalize decide ((I : Int) < (M : Int)) = dd at *
        refine wp_region_last (mk := fun u => #[_, _, _, _, _, _, _, _, _, _, _, _, _, _, _, _, _, _, _, _, _, _, _, _, _, _, _, _, _, _, _, _, _, _, _, _, _, _, _, u 39, u 40, u 41, u 42, u 43, u 44, u 45, u 46, _, _, _, _, _, _, _, _, _, _, _, _, _, _, _, _, _, _, _]) (F := fun slot vv ww => (look [(39, .val (.agg (wds S).toArray)), (40, .val (.slice (some y) M ac)), (41, .val (.int .i64 (I : Nat))), (42, .val (.int .i64 (I : Nat))), (43, .val (.int .i64 (I2 : Nat))), (44, .val (.slice (some y') 64 ac')), (45, .val kv), (46, .val (.agg (wds S1).toArray))] slot).holds vv ww) (fun t => if t = 39 then u39 else if t = 40 then u40 else if t = 41 then u41 else if t = 42 then u42 else if t = 43 then u43 else if t = 44 then u44 else if t = 45 then u45 else if t = 46 then u46 else undef) rfl (by kernel_rfl) 8 _ rfl rfl (by kernel_rfl) ?_ (fun _ v w w' hc h => Fact.stays _ v w w' hc h) ?_ ?_
        · repeat (refine ⟨⟨_, rfl, fun _ _ => rfl⟩, ?_⟩)
          exact trivial
        · refine ⟨?_, ?_, ?_, ?_, ?_, ?_, ?_, ?_, trivial⟩
          · intro u w hc hd K hK -- 39
            clear hd
            show Oper.wp Tryd.prog _ _ w K _
            exact wp_load_row 45 (.tmp 5) rfl _ rfl _ _ _ _ (blk_keep hB hc (fun f => f)) Tryd.underlying45 rfl hi8 (hK.out _ _ (Chg.refl _ _) rfl)
          · intro u w hc hd K hK -- 40
            clear hd
            go_simp
            exact hK.out (.slice (some y) M ac) w (Chg.refl _ _) rfl
          · intro u w hc hd K hK -- 41
            clear hd
            go_simp
            exact hK.out (.int .i64 (I : Nat)) w (Chg.refl _ _) rfl
          · intro u w hc hd K hK -- 42
            clear hd
            go_simp
            exact hK.out (.int .i64 (I : Nat)) w (Chg.refl _ _) rfl
          · intro u w hc hd K hK -- 43
            have h42 : (Fact.val (.int .i64 (I : Nat))).holds (u 42) w := hd.get 3 (by kernel_rfl)
            simp only [Fact.holds] at h42
            clear hd
            simp only [h42] at hK
            go_simp
            exact hK.out (.int .i64 (I2 : Nat)) w (Chg.refl _ _) rfl
          · intro u w hc hd K hK -- 44
            have h40 : (Fact.val (.slice (some y) M ac)).holds (u 40) w := hd.get 1 (by kernel_rfl)
            simp only [Fact.holds] at h40
            have h41 : (Fact.val (.int .i64 (I : Nat))).holds (u 41) w := hd.get 2 (by kernel_rfl)
            simp only [Fact.holds] at h41
            have h43 : (Fact.val (.int .i64 (I2 : Nat))).holds (u 43) w := hd.get 4 (by kernel_rfl)
            simp only [Fact.holds] at h43
            clear hd
            simp only [h40, h41, h43] at hK
            have hsl := hs1 w
            have hsl2 := hs2 w
            go_simp
            exact hK.out _ w (Chg.refl _ _) rfl
          · intro u w hc hd K hK -- 45
            clear hd
            go_simp
            exact hK.out kv w (Chg.refl _ _) rfl
          · intro u w hc hd K hK -- 46
            have h39 : (Fact.val (.agg (wds S).toArray)).holds (u 39) w := hd.get 0 (by kernel_rfl)
            simp only [Fact.holds] at h39
            have h44 : (Fact.val (.slice (some y') 64 ac')).holds (u 44) w := hd.get 5 (by kernel_rfl)
            simp only [Fact.holds] at h44
            have h45 : (Fact.val kv).holds (u 45) w := hd.get 6 (by kernel_rfl)
            simp only [Fact.holds] at h45
            clear hd
            simp only [h39, h44, h45] at hK
            go_simp
            go_at_call 23
            refine (HStep.out w hc).mono ?_
            rintro e w1 ⟨rfl, hc1⟩
            exact hK.out _ _ hc1 rfl
        · intro u w hc hA K hK
          have a46 : u 46 = _ := hA.at 46 (by kernel_rfl)
          clear hA
          show Oper.wp Tryd.prog _ _ w K _
          have hBw := blk_keep hB hc (fun f => f)
          refine wp_store_row 45 (.tmp 5) (.tmp 46) rfl sb (wds S1).toArray rfl a46 45 _ hBw (by rw [wds_size, hst1.len]; exact infoA8) (by rw [wds_size, wds_size, hst1.len, hl8]) (wds_one _) ?_
          refine hK.out _ _ ?_
          have HB1 : Hid ((w.setRow sb (wds S1).toArray).heap[sb]? = some (.cells (wds (Sha.run s0 all (m + 1))).toArray 45 (0, 0))) := by
            show _ = _
            rw [setRow_heap _ _ _ _ _ _ hBw, HR.out]
          have HC1 : Hid (Chg (fun k => k = sb) w6 (w.setRow sb (wds S1).toArray)) := (HCh.out.trans (T := fun _ => False) hc (fun _ f => f.elim)).trans (chg_setRow _ _ _) (fun _ e => .inl e)
          generalize w.setRow sb (wds S1).toArray = w8 at *
          clear hBw hB hK a46 hc HCh HR HStep hs1 hs2
          go_simp
          go_wp2
          go_roundw
          case rel => exact ⟨I + 64, m + 1, by have := HI.out; omega, by have := HI2.out; omega, by have := HI2.out; go_num, HB1.out, HC1.out⟩
          case measure => simp [intOf]; omega
      · have hm : m = all.length / 64 := by have := HM.out; omega
        have hS : Sha.run s0 all m = Sha.eat s0 all := by rw [hm]; rfl
        rw [hS] at hB
        have hst := Sha.eat_st hs all
        have hCw : Chg (fun _ => False) w wr := C6.trans hC (fun k e => .inr (by omega))
        have hzr := blk_keep hz6 hC (by omega)
        clear hm hS hI HI hrow6 hK6 hC C6 hz6
        generalize Sha.eat s0 all = S at *
        have HZ' : Hid ((byts (fill [] 32)).toArray = _) := HZ32
        have hb0 : (wr.alloc (.cells (byts (fill [] 32)).toArray 27)).heap[wr.heap.size]? = some (.cells (byts (fill ((Sha.told S).take 0) 32)).toArray 27 (0, 0)) := heap_alloc_last _ _
        have cn := chg_one wr (.cells (byts (fill [] 32)).toArray 27)
        rw [HZ'.out] at hb0 cn
        have hsbl : sb < wr.heap.size := lt_of_blk hB
        have hzl : w.heap.size < wr.heap.size := lt_of_blk hzr
        generalize decide ((I : Int) < (M : Int)) = dd at *
        go_wp2_with fail
        generalize hw9 : wr.alloc _ = w9 at *
        clear hw9
        have hB9 := blk_keep hB cn (fun f => f)
        have hz9 := blk_keep hzr cn (fun f => f)
        have C9 := chg_then hCw cn
        clear hB hzr hCw cn
        generalize hob : wr.heap.size = ob at *
        have hobs : w.heap.size ≤ ob := by omega
        clear hob
        go_loopw [8] (fun i ws => ∃ k : Nat, k ≤ 32 ∧ i = .int .i64 k ∧ ws.heap[ob]? = some (.cells (byts (fill ((Sha.told S).take k) 32)).toArray 27 (0, 0)) ∧ Chg (fun z => z = ob) w9 ws) (fun i _ => 32 - (intOf i).toNat)
        case atStart => exact ⟨0, by omega, rfl, hb0, Chg.refl _ _⟩
        case round =>
          clear hb0
          obtain ⟨k, hk, rfl, hb, hC⟩ := hrel
          have hlen : ((Sha.told S).take k).length = k := by rw [List.length_take, Sha.told_len]; omega
          by_cases hlt2 : k < 32
          · have cx := wds_cell (blk_keep hB9 hC (by omega)) (k / 4) (by rw [hst.len]; omega)
            have lx := hst.wds.getD (k / 4)
            have fb : ∀ w', Chg (fun _ => False) wr w' → w'.frozen? ⟨ob, k, none⟩ = false := fun w' hc => by simp only [World.frozen?, blk_keep hb hc (fun f => f)]; rfl
            have HBK : Hid (wr.heap[ob]? = some (.cells (byts (fill ((Sha.told S).take k) 32)).toArray 27 (0, 0))) := hb
            have HSet : Hid (∀ w', Chg (fun _ => False) wr w' → (w'.setCell ⟨ob, k, none⟩ (.int .u8 (S.getD (k / 4) 0 / p2 (24 - 8 * (k % 4)) % 256 : Nat))).heap[ob]? = some (.cells (byts (fill ((Sha.told S).take (k + 1)) 32)).toArray 27 (0, 0))) := by
              intro w' hc
              have := fill_set ((Sha.told S).take k) 32 (S.getD (k / 4) 0 / p2 (24 - 8 * (k % 4)) % 256) (by omega)
              rw [hlen] at this
              rw [blk_setk (blk_keep hb hc (fun f => f)), byts_set, this, told_take S k hlt2, show 24 - k % 4 * 8 = 24 - 8 * (k % 4) by omega]
              rfl
            have cb := byts_cell hb k (by rw [fill_len _ _ (by omega)]; omega)
            have HCh : Hid (Chg (fun z => z = ob) w9 wr) := hC
            have hq1 := fun w => power_any (24 - 8 * (k % 4)) w (by omega)
            have hp1 := p2_pos (24 - 8 * (k % 4))
            have hp2 := p2_le (n := 24 - 8 * (k % 4)) (by omega)
            have dq : (k : Int) / 4 = ((k / 4 : Nat) : Int) := by omega
            have dqt : (k : Int).tdiv 4 = ((k / 4 : Nat) : Int) := by rw [Int.tdiv_eq_ediv_of_nonneg (by omega)]; omega
            have dr : (k : Int) % 4 = ((k % 4 : Nat) : Int) := by omega
            have drt : (k : Int).tmod 4 = ((k % 4 : Nat) : Int) := by rw [Int.tmod_eq_emod_of_nonneg (by omega)]; omega
            have d8 : 8 * ((k % 4 : Nat) : Int) = ((8 * (k % 4) : Nat) : Int) := by omega
            have de : 24 - ((8 * (k % 4) : Nat) : Int) = ((24 - 8 * (k % 4) : Nat) : Int) := by omega
            have hl4 : k / 4 < 8 := by omega
            have hr4 : k % 4 < 4 := by omega
            have hr8 : 8 * (k % 4) ≤ 24 := by omega
            have he8 : 24 - 8 * (k % 4) ≤ 24 := by omega
            generalize (fill ((Sha.told S).take k) 32).getD k 0 = z at *
            generalize S.getD (k / 4) 0 = x at *
            generalize k / 4 = q at *
            generalize 24 - 8 * (k % 4) = e8 at *
            generalize 8 * (k % 4) = r8 at *
            generalize k % 4 = r at *
            generalize p2 e8 = p at *
            have hd1 : (x : Int) / (p : Int) = ((x / p : Nat) : Int) := by simp
            have hdt : (x : Int).tdiv (p : Int) = ((x / p : Nat) : Int) := by rw [Int.tdiv_eq_ediv_of_nonneg (by omega)]; exact hd1
            have ld : x / p < 4294967296 := Nat.lt_of_le_of_lt (Nat.div_le_self _ _) lx
            generalize x / p = d at *
            have ho1 : (d : Int) % 256 = ((d % 256 : Nat) : Int) := by omega
            have hot : (d : Int).tmod 256 = ((d % 256 : Nat) : Int) := by rw [Int.tmod_eq_emod_of_nonneg (by omega)]; exact ho1
            have lo : d % 256 < 256 := Nat.mod_lt _ (by omega)
            generalize d % 256 = o at *
            have wq : IntKind.i64.wrap (q : Int) = (q : Int) := by simp [IntKind.wrap, IntKind.signed, IntKind.bits]; omega
            have wr_ : IntKind.i64.wrap (r : Int) = (r : Int) := by simp [IntKind.wrap, IntKind.signed, IntKind.bits]; omega
            have wr8 : IntKind.i64.wrap (r8 : Int) = (r8 : Int) := by simp [IntKind.wrap, IntKind.signed, IntKind.bits]; omega
            have we8 : IntKind.i64.wrap (e8 : Int) = (e8 : Int) := by simp [IntKind.wrap, IntKind.signed, IntKind.bits]; omega
            have wd : IntKind.u32.wrap (d : Int) = (d : Int) := by rw [wrap32]; omega
            have wo : IntKind.u32.wrap (o : Int) = (o : Int) := by rw [wrap32]; omega
            have wo8 : IntKind.u8.wrap (o : Int) = (o : Int) := by simp [IntKind.wrap, IntKind.signed, IntKind.bits]; omega
            have hpne : ¬ p = 0 := by omega
            have hq8 : (q : Int) < 8 := by omega
            have hk32 : (k : Int) < 32 := by omega
            clear hb hC hlen
            go_wp2_with fail
            generalize decide ((k : Int) < 32) = dk at *
            refine wp_region_last (mk := fun u => #[_, _, _, _, _, _, _, _, _, _, _, _, _, _, _, _, _, _, _, _, _, _, _, _, _, _, _, _, _, _, _, _, _, _, _, _, _, _, _, _, _, _, _, _, _, _, _, _, _, _, _, u 51, u 52, u 53, u 54, u 55, u 56, u 57, u 58, u 59, u 60, u 61, u 62, u 63, u 64, _]) (F := fun slot vv ww => (look [(51, .val (.int .i64 (k : Nat))), (52, .val (.int .i64 (k : Nat))), (53, .val (.int .i64 (q : Nat))), (54, .val (.pointer (some ⟨sb, q, none⟩))), (55, .val (.int .u32 (x : Nat))), (56, .val (.int .i64 (k : Nat))), (57, .val (.int .i64 (r : Nat))), (58, .val (.int .i64 (r8 : Nat))), (59, .val (.int .i64 (e8 : Nat))), (60, .val (.int .u32 (p : Nat))), (61, .val (.int .u32 (d : Nat))), (62, .val (.int .u32 (o : Nat))), (63, .val (.int .u8 (o : Nat))), (64, .val (.pointer (some ⟨ob, k, none⟩)))] slot).holds vv ww) (fun t => if t = 51 then u51 else if t = 52 then u52 else if t = 53 then u53 else if t = 54 then u54 else if t = 55 then u55 else if t = 56 then u56 else if t = 57 then u57 else if t = 58 then u58 else if t = 59 then u59 else if t = 60 then u60 else if t = 61 then u61 else if t = 62 then u62 else if t = 63 then u63 else if t = 64 then u64 else undef) rfl (by kernel_rfl) 14 _ rfl rfl (by kernel_rfl) ?_ (fun _ v w w' hc h => Fact.stays _ v w w' hc h) ?_ ?_
            · repeat (refine ⟨⟨_, rfl, fun _ _ => rfl⟩, ?_⟩)
              exact trivial
            · refine ⟨?_, ?_, ?_, ?_, ?_, ?_, ?_, ?_, ?_, ?_, ?_, ?_, ?_, ?_, trivial⟩
              · intro u w hc hd K hK -- 51
                clear hd
                go_simp
                exact hK.out (.int .i64 (k : Nat)) w (Chg.refl _ _) rfl
              · intro u w hc hd K hK -- 52
                clear hd
                go_simp
                exact hK.out (.int .i64 (k : Nat)) w (Chg.refl _ _) rfl
              · intro u w hc hd K hK -- 53
                have h52 : (Fact.val (.int .i64 (k : Nat))).holds (u 52) w := hd.get 1 (by kernel_rfl)
                simp only [Fact.holds] at h52
                clear hd
                simp only [h52] at hK
                go_simp
                exact hK.out (.int .i64 (q : Nat)) w (Chg.refl _ _) rfl
              · intro u w hc hd K hK -- 54
                have h53 : (Fact.val (.int .i64 (q : Nat))).holds (u 53) w := hd.get 2 (by kernel_rfl)
                simp only [Fact.holds] at h53
                clear hd
                simp only [h53] at hK
                go_simp
                exact hK.out (.pointer (some ⟨sb, q, none⟩)) w (Chg.refl _ _) rfl
              · intro u w hc hd K hK -- 55
                have h54 : (Fact.val (.pointer (some ⟨sb, q, none⟩))).holds (u 54) w := hd.get 3 (by kernel_rfl)
                simp only [Fact.holds] at h54
                clear hd
                simp only [h54] at hK
                have hcell := cell_chg cx hc
                go_simp
                exact hK.out _ _ (Chg.refl _ _) rfl
              · intro u w hc hd K hK -- 56
                clear hd
                go_simp
                exact hK.out (.int .i64 (k : Nat)) w (Chg.refl _ _) rfl
              · intro u w hc hd K hK -- 57
                have h56 : (Fact.val (.int .i64 (k : Nat))).holds (u 56) w := hd.get 5 (by kernel_rfl)
                simp only [Fact.holds] at h56
                clear hd
                simp only [h56] at hK
                go_simp
                exact hK.out (.int .i64 (r : Nat)) w (Chg.refl _ _) rfl
              · intro u w hc hd K hK -- 58
                have h57 : (Fact.val (.int .i64 (r : Nat))).holds (u 57) w := hd.get 6 (by kernel_rfl)
                simp only [Fact.holds] at h57
                clear hd
                simp only [h57] at hK
                go_simp
                exact hK.out (.int .i64 (r8 : Nat)) w (Chg.refl _ _) rfl
              · intro u w hc hd K hK -- 59
                have h58 : (Fact.val (.int .i64 (r8 : Nat))).holds (u 58) w := hd.get 7 (by kernel_rfl)
                simp only [Fact.holds] at h58
                clear hd
                simp only [h58] at hK
                go_simp
                exact hK.out (.int .i64 (e8 : Nat)) w (Chg.refl _ _) rfl
              · intro u w hc hd K hK -- 60
                have h59 : (Fact.val (.int .i64 (e8 : Nat))).holds (u 59) w := hd.get 8 (by kernel_rfl)
                simp only [Fact.holds] at h59
                clear hd
                simp only [h59] at hK
                go_simp
                go_at_call 24
                refine (hq1 w).mono ?_
                rintro e w1 ⟨rfl, rfl⟩
                exact hK.out _ _ (Chg.refl _ _) rfl
              · intro u w hc hd K hK -- 61
                have h55 : (Fact.val (.int .u32 (x : Nat))).holds (u 55) w := hd.get 4 (by kernel_rfl)
                simp only [Fact.holds] at h55
                have h60 : (Fact.val (.int .u32 (p : Nat))).holds (u 60) w := hd.get 9 (by kernel_rfl)
                simp only [Fact.holds] at h60
                clear hd
                simp only [h55, h60] at hK
                go_simp
                exact hK.out (.int .u32 (d : Nat)) w (Chg.refl _ _) rfl
              · intro u w hc hd K hK -- 62
                have h61 : (Fact.val (.int .u32 (d : Nat))).holds (u 61) w := hd.get 10 (by kernel_rfl)
                simp only [Fact.holds] at h61
                clear hd
                simp only [h61] at hK
                go_simp
                exact hK.out (.int .u32 (o : Nat)) w (Chg.refl _ _) rfl
              · intro u w hc hd K hK -- 63
                have h62 : (Fact.val (.int .u32 (o : Nat))).holds (u 62) w := hd.get 11 (by kernel_rfl)
                simp only [Fact.holds] at h62
                clear hd
                simp only [h62] at hK
                go_simp
                exact hK.out (.int .u8 (o : Nat)) w (Chg.refl _ _) rfl
              · intro u w hc hd K hK -- 64
                have h51 : (Fact.val (.int .i64 (k : Nat))).holds (u 51) w := hd.get 0 (by kernel_rfl)
                simp only [Fact.holds] at h51
                clear hd
                simp only [h51] at hK
                go_simp
                exact hK.out (.pointer (some ⟨ob, k, none⟩)) w (Chg.refl _ _) rfl
            · intro u w hc hA K hK
              have a63 : u 63 = _ := hA.at 63 (by kernel_rfl)
              have a64 : u 64 = _ := hA.at 64 (by kernel_rfl)
              clear hA
              have HB1 : Hid _ := HSet.out w hc
              have HC1 : Hid (Chg (fun z => z = ob) w9 (w.setCell ⟨ob, k, none⟩ (.int .u8 (o : Nat)))) := (HCh.out.trans (T := fun _ => False) hc (fun _ f => f.elim)).setCell (p := ⟨ob, k, none⟩) (.inl rfl) _
              have cbw := cell_chg cb hc
              have fbw := fb w hc
              clear HSet HCh HBK cb fb cx
              simp only [a63, a64]
              go_simp
              refine hK.out _ _ ?_
              generalize w.setCell ⟨ob, k, none⟩ (.int .u8 (o : Nat)) = w8 at *
              clear cbw fbw hc a63 a64 hK
              go_simp
              go_wp2
              go_roundw
              case rel => exact ⟨k + 1, by omega, by go_num, HB1.out, HC1.out⟩
              case measure => simp [intOf]; omega
          · have hz := blk_keep hz9 hC (by omega)
            rw [show fill ((Sha.told S).take k) 32 = Sha.told S by
              rw [List.take_of_length_le (by rw [Sha.told_len]; omega)]
              have := fill_full (Sha.told S); rw [Sha.told_len] at this; exact this] at hb
            have hsz : (byts (Sha.told S)).toArray.size = 32 := by rw [byts_size, Sha.told_len]
            have hi32 : (Tryd.prog.info? 27).map (·.size) = some (byts (Sha.told S)).toArray.size := by rw [hsz]; exact infoB32
            have CW : Chg (fun _ => False) w wr := C9.trans hC (fun _ e => .inr (by omega))
            clear hC hz9 hB9 C9 hlen
            go_wp2_with (first
              | refine wpList_load_row rfl 27 (.tmp 7) rfl ob rfl 27 _ (0, 0) _ hb Tryd.underlying27 rfl hi32 ?_
              | refine wpList_store_row rfl 27 (.tmp 2) (.tmp 65) rfl w.heap.size _ rfl rfl 27 _ hz hi32 (by rw [hsz]; rfl) (byts_one _) ?_)
            (try simp only [Exit.inBlock, Exit.then])
            refine bodyPost_ret (results_cell_row rfl _ _ w.heap.size 27 (byts (Sha.told S)).toArray (0, 0) _ rfl (setRow_heap _ _ _ _ _ _ hz) Tryd.underlying27 rfl hi32) rfl ⟨by rw [HV.out], ?_⟩
            exact CW.trans (T := fun b => b = w.heap.size) ⟨rfl, rfl, rfl, by simp, fun b _ hb => setRow_other _ _ _ _ hb⟩ (fun b hb => .inr (by omega)))
end Go.Proofs.YtnedllhlmddmoabDoor
