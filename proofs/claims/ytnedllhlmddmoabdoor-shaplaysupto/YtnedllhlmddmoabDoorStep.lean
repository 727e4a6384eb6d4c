/- The step of a block over a state: the contract of Step; of no statement by itself. -/
import Derived.Test.YtnedllhlmddmoabDoorRounds
import Derived.Test.YtnedllhlmddmoabDoorFacts
namespace Go.Proofs.YtnedllhlmddmoabDoor
open Go.RowKit
set_option linter.unusedVariables false

/-- The first k words summed. -/
def part (s r : List Nat) (k : Nat) : List Nat := (List.range 8).map fun i => if i < k then Sha.add (s.getD i 0) (r.getD i 0) else s.getD i 0
theorem part_len (s r : List Nat) (k : Nat) : (part s r k).length = 8 := by simp [part]
theorem part_none {s r : List Nat} (h : s.length = 8) : part s r 0 = s := by
  apply List.ext_getElem?
  intro j
  by_cases hj : j < 8
  · simp [part, hj, h]
  · simp [part, hj, h]
theorem part_here (s r : List Nat) {k : Nat} (hk : k < 8) : (part s r k).getD k 0 = s.getD k 0 := by simp [part, hk]
theorem part_all (s r : List Nat) : part s r 8 = Sha.sums s r := by
  unfold part Sha.sums
  exact List.map_congr_left fun i hi => by rw [if_pos (List.mem_range.1 hi)]
theorem part_step (s r : List Nat) (k : Nat) : (part s r k).set k (Sha.add (s.getD k 0) (r.getD k 0)) = part s r (k + 1) := by
  apply List.ext_getElem?
  intro j
  rw [List.getElem?_set]
  simp only [part, List.getElem?_map, List.length_map, List.length_range]
  by_cases e : k = j
  · subst e
    by_cases hk : k < 8
    · simp [hk]
    · simp [hk]
  · by_cases hj : j < 8
    · by_cases h1 : j < k
      · simp [e, hj, h1, show j < k + 1 by omega]
      · simp [e, hj, h1, show ¬ j < k + 1 by omega]
    · simp [e, hj]

set_option maxHeartbeats 4000000 in
set_option maxRecDepth 100000 in
theorem step_any (s b : List Nat) (wa : World) (hT : TabK wa) (hs : Sha.St s) (hl : b.length = 64) (hb : ∀ x ∈ b, x < 256) :
    Calls Tryd.prog 20 #[.agg (wds s).toArray, .agg (byts b).toArray] wa fun e w' => e = .returned (.agg (wds (Sha.step s b)).toArray) ∧ Chg (fun _ => False) wa w' := by
  have hi8 : (Tryd.prog.info? 45).map (·.size) = some (wds s).toArray.size := by rw [wds_size, hs.len]; exact infoA8
  have hi64 : (Tryd.prog.info? 54).map (·.size) = some (byts b).toArray.size := by rw [byts_size, hl]; exact infoB64
  have cR : Chg (fun _ => False) wa (((wa.alloc (.cells (wds s).toArray 45)).alloc (.cells (byts b).toArray 54)).alloc (.cells (wds (fill [] 8)).toArray 45)) := (((Chg.refl _ wa).alloc _).alloc _).alloc _
  have h0 : (((wa.alloc (.cells (wds s).toArray 45)).alloc (.cells (byts b).toArray 54)).alloc (.cells (wds (fill [] 8)).toArray 45)).heap[wa.heap.size]? = some (.cells (wds s).toArray 45 (0, 0)) := by
    rw [Below.heap_alloc _ _ _ (by simp; omega), Below.heap_alloc _ _ _ (by simp), heap_alloc_last]
  have h1 : (((wa.alloc (.cells (wds s).toArray 45)).alloc (.cells (byts b).toArray 54)).alloc (.cells (wds (fill [] 8)).toArray 45)).heap[wa.heap.size + 1]? = some (.cells (byts b).toArray 54 (0, 0)) := by
    rw [Below.heap_alloc _ _ _ (by simp), show wa.heap.size + 1 = (wa.alloc (.cells (wds s).toArray 45)).heap.size by simp, heap_alloc_last]
  have h2 : (((wa.alloc (.cells (wds s).toArray 45)).alloc (.cells (byts b).toArray 54)).alloc (.cells (wds (fill [] 8)).toArray 45)).heap[wa.heap.size + 1 + 1]? = some (.cells (wds (fill [] 8)).toArray 45 (0, 0)) := by
    rw [show wa.heap.size + 1 + 1 = ((wa.alloc (.cells (wds s).toArray 45)).alloc (.cells (byts b).toArray 54)).heap.size by simp, heap_alloc_last]
  have HZ : Hid ((wds (fill [] 8)).toArray = #[.int .u32 0, .int .u32 0, .int .u32 0, .int .u32 0, .int .u32 0, .int .u32 0, .int .u32 0, .int .u32 0]) := rfl
  replace hT := hT.new cR
  go_enter Tryd.func20, Tryd.ntmps20
  go_wp2_with fail
  rw [← HZ.out]
  generalize hw0 : (((wa.alloc (.cells (wds s).toArray 45)).alloc (.cells (byts b).toArray 54)).alloc (.cells (wds (fill [] 8)).toArray 45)) = w0 at *
  clear hw0
  refine wp_region_last (mk := fun u => #[_, _, _, _, _, u 5, _, u 7, u 8, u 9, u 10, _, _, _, _, _, _, _, _, _, _, _, _, _]) (F := fun slot vv ww => (look [(7, .val (.agg (wds s).toArray)), (8, .val (.agg (byts b).toArray)), (9, .val (.agg (wds (Sha.sched b 48)).toArray)), (10, .val (.agg (wds (Sha.rnds Sha.K (Sha.sched b 48) s 64)).toArray)), (5, .blk w0.heap.size (wds (fill [] 8)) 45)] slot).holds vv ww) (fun _ => undef) rfl (by kernel_rfl) 5 _ rfl rfl (by kernel_rfl) ?_ (fun _ v w w' hc h => Fact.stays _ v w w' hc h) ?_ ?_
  · repeat (refine ⟨⟨_, rfl, fun _ _ => rfl⟩, ?_⟩)
    exact trivial
  · refine ⟨?_, ?_, ?_, ?_, ?_, trivial⟩
    · intro u w hc hd K hK -- 7
      clear hd
      show Oper.wp Tryd.prog _ _ w K _
      exact wp_load_row 45 (.tmp 2) rfl _ rfl _ _ _ _ (blk_keep h0 hc (fun f => f)) Tryd.underlying45 rfl hi8 (hK.out _ _ (Chg.refl _ _) rfl)
    · intro u w hc hd K hK -- 8
      clear hd
      show Oper.wp Tryd.prog _ _ w K _
      exact wp_load_row 54 (.tmp 3) rfl _ rfl _ _ _ _ (blk_keep h1 hc (fun f => f)) Tryd.underlying54 rfl hi64 (hK.out _ _ (Chg.refl _ _) rfl)
    · intro u w hc hd K hK -- 9
      have h8 : (Fact.val (.agg (byts b).toArray)).holds (u 8) w := hd.get 1 (by kernel_rfl)
      simp only [Fact.holds] at h8
      clear hd
      simp only [h8] at hK
      go_simp
      go_at_call 30
      refine (spread_any b w hl hb).mono ?_
      rintro e w1 ⟨rfl, hc1⟩
      exact hK.out _ _ hc1 rfl
    · intro u w hc hd K hK -- 10
      have h7 : (Fact.val (.agg (wds s).toArray)).holds (u 7) w := hd.get 0 (by kernel_rfl)
      simp only [Fact.holds] at h7
      have h9 : (Fact.val (.agg (wds (Sha.sched b 48)).toArray)).holds (u 9) w := hd.get 2 (by kernel_rfl)
      simp only [Fact.holds] at h9
      clear hd
      simp only [h7, h9] at hK
      go_simp
      go_at_call 29
      refine (rounds_any s (Sha.sched b 48) w (hT.new hc) hs (Sha.sched_wds hb 48) (Sha.sched_len b 48)).mono ?_
      rintro e w1 ⟨rfl, hc1⟩
      exact hK.out _ _ hc1 rfl
    · intro u w hc hd K hK -- 5
      clear hd
      go_simp
      exact hK.out _ _ (chg_one w _) ⟨_, rfl, hc.size, heap_alloc_last w _⟩
  · intro u w hc hA K hK
    have a5 := hA.at 5 (by kernel_rfl)
    have a10 : u 10 = _ := hA.at 10 (by kernel_rfl)
    obtain ⟨g, h5, hg0, p5⟩ := a5
    have hg : wa.heap.size ≤ g := Nat.le_trans cR.size hg0
    have hne : g ≠ wa.heap.size := by have := lt_of_blk h0; omega
    have hne2 : g ≠ wa.heap.size + 1 + 1 := by have := lt_of_blk h2; omega
    clear hA
    show Oper.wp Tryd.prog _ _ w K _
    refine wp_store_row 45 (.tmp 5) (.tmp 10) rfl g (wds (Sha.rnds Sha.K (Sha.sched b 48) s 64)).toArray h5 a10 45 _ p5 ?_ ?_ (wds_one _) ?_
    · rw [wds_size, (Sha.rnds_st hs _ _ _).len]; exact infoA8
    · rw [wds_size, wds_size, (Sha.rnds_st hs _ _ _).len]; rfl
    refine hK.out _ _ ?_
    rw [show u 5 = Value.pointer (some ⟨g, 0, none⟩) from h5]
    have hR : (Sha.rnds Sha.K (Sha.sched b 48) s 64).length = 8 := (Sha.rnds_st hs _ _ _).len
    have hc1 : Chg (fun _ => False) w0 (w.setRow g (wds (Sha.rnds Sha.K (Sha.sched b 48) s 64)).toArray) := hc.trans (T := fun k => k = g) ⟨rfl, rfl, rfl, by simp, fun k _ hk => setRow_other _ _ _ _ hk⟩ (fun k hk => .inr (by subst hk; exact hg0))
    have q5 := setRow_heap w g _ (wds (Sha.rnds Sha.K (Sha.sched b 48) s 64)).toArray 45 (0, 0) p5
    have q2 := blk_keep h2 hc1 (fun f => f)
    have q0 := blk_keep h0 hc1 (fun f => f)
    have cW := chg_then cR hc1
    have HE : Hid (Sha.step s b = Sha.sums s (Sha.rnds Sha.K (Sha.sched b 48) s 64)) := rfl
    have hRw := (Sha.rnds_st hs Sha.K (Sha.sched b 48) 64).wds
    clear h5 hc hc1 p5 h0 h1 h2 a10 hT hK HZ hi64 cR
    generalize w.setRow g (wds (Sha.rnds Sha.K (Sha.sched b 48) s 64)).toArray = w1 at *
    generalize Sha.rnds Sha.K (Sha.sched b 48) s 64 = r at *
    go_simp
    go_wp2_with fail
    clear K
    go_loopw [11] (fun i wr => ∃ k : Nat, k ≤ 8 ∧ i = .int .i64 k ∧ wr.heap[wa.heap.size]? = some (.cells (wds (part s r k)).toArray 45 (0, 0)) ∧ wr.heap[g]? = some (.cells (wds r).toArray 45 (0, 0)) ∧ wr.heap[wa.heap.size + 1 + 1]? = some (.cells (wds (fill [] 8)).toArray 45 (0, 0)) ∧ Chg (fun _ => False) wa wr) (fun i _ => 8 - (intOf i).toNat)
    case atStart => exact ⟨0, by omega, rfl, by rw [part_none hs.len]; exact q0, q5, q2, cW⟩
    case round =>
      clear q0 q5 q2 cW
      obtain ⟨k, hk, rfl, q0, q5, q2, hc⟩ := hrel
      by_cases hlt : k < 8
      · have c0 := wds_cell q0 k (by rw [part_len]; exact hlt)
        have c5 := wds_cell q5 k (by rw [hR]; exact hlt)
        rw [part_here s r hlt] at c0
        have l0 := hs.wds.getD k
        have l1 := hRw.getD k
        have f0 : wr.frozen? ⟨wa.heap.size, k, none⟩ = false := by simp [World.frozen?, q0]
        have e0 := add32 (s.getD k 0) (r.getD k 0)
        have H0 : Hid (((wr.setCell ⟨wa.heap.size, k, none⟩ (.int .u32 (Sha.add (s.getD k 0) (r.getD k 0) : Nat))).drew).heap[wa.heap.size]? = some (.cells (wds (part s r (k + 1))).toArray 45 (0, 0))) := by
          show (wr.setCell _ _).heap[_]? = _
          rw [blk_setk q0, wds_set, part_step]
        have H5 : Hid (((wr.setCell ⟨wa.heap.size, k, none⟩ (.int .u32 (Sha.add (s.getD k 0) (r.getD k 0) : Nat))).drew).heap[g]? = some (.cells (wds r).toArray 45 (0, 0))) := by
          show (wr.setCell _ _).heap[_]? = _
          rw [Below.heap_setCell _ _ _ _ (by simpa using hne), q5]
        have H2 : Hid (((wr.setCell ⟨wa.heap.size, k, none⟩ (.int .u32 (Sha.add (s.getD k 0) (r.getD k 0) : Nat))).drew).heap[wa.heap.size + 1 + 1]? = some (.cells (wds (fill [] 8)).toArray 45 (0, 0))) := by
          show (wr.setCell _ _).heap[_]? = _
          rw [Below.heap_setCell _ _ _ _ (by simp; omega), q2]
        have HC : Hid (Chg (fun _ => False) wa ((wr.setCell ⟨wa.heap.size, k, none⟩ (.int .u32 (Sha.add (s.getD k 0) (r.getD k 0) : Nat))).drew)) := (hc.setCell (.inr (Nat.le_refl _)) _).drew
        generalize Sha.add (s.getD k 0) (r.getD k 0) = z at *
        generalize s.getD k 0 = x at *
        generalize r.getD k 0 = y at *
        clear q0 q5 q2 hc hs hb hl hi8 hR hRw
        go_wp2_with fail
        go_region
        go_wp2
        go_roundw
        case rel => exact ⟨k + 1, by omega, by go_num, H0.out, H5.out, H2.out, HC.out⟩
        case measure => simp [intOf]; omega
      · have e8 : k = 8 := by omega
        rw [e8, part_all] at q0
        have hi : (Tryd.prog.info? 45).map (·.size) = some (wds (Sha.sums s r)).toArray.size := by rw [wds_size, (Sha.sums_st s r).len]; exact infoA8
        have hz : (wds (fill [] 8)).toArray.size = (wds (Sha.sums s r)).toArray.size := by rw [wds_size, wds_size, (Sha.sums_st s r).len]; rfl
        clear hs hb hl hi8 hR hRw q5
        go_wp2_with (first
          | refine wpList_load_row rfl 45 (.tmp 2) rfl wa.heap.size rfl 45 _ (0, 0) _ q0 Tryd.underlying45 rfl hi ?_
          | refine wpList_store_row rfl 45 (.tmp 4) (.tmp 23) rfl (wa.heap.size + 1 + 1) _ rfl rfl 45 _ q2 hi hz (wds_one _) ?_)
        (try simp only [Exit.inBlock, Exit.then])
        refine bodyPost_ret (results_cell_row rfl _ _ (wa.heap.size + 1 + 1) 45 (wds (Sha.sums s r)).toArray (0, 0) _ rfl (setRow_heap _ _ _ _ _ _ q2) Tryd.underlying45 rfl hi) rfl ⟨by rw [HE.out], ?_⟩
        exact hc.trans (T := fun b => b = wa.heap.size + 1 + 1) ⟨rfl, rfl, rfl, by simp, fun b _ hb => setRow_other _ _ _ _ hb⟩ (fun b hb => .inr (by omega))
end Go.Proofs.YtnedllhlmddmoabDoor
