/- The document's own step: the contracts of Constants and Step; of no statement by themselves. -/
import Derived.Test.YtnedllhlmddmoabDoorRefW
import Derived.Test.YtnedllhlmddmoabDoorStep
import Derived.Great.BuildSlice
namespace Go.Proofs.YtnedllhlmddmoabDoor
open Go.RowKit
set_option linter.unusedVariables false

theorem add_assoc (a b c : Nat) : Sha.add (Sha.add a b) c = Sha.add a (Sha.add b c) := by unfold Sha.add; omega
theorem add_comm (a b : Nat) : Sha.add a b = Sha.add b a := by unfold Sha.add; omega
theorem sums_comm (s r : List Nat) : Sha.sums s r = Sha.sums r s := by
  unfold Sha.sums
  exact List.map_congr_left fun i _ => add_comm _ _

/-- A list of 64 words in memory. -/
def W64 (w : World) (v : Value) (l : List Nat) : Prop := ∃ x c, v = .slice (some x) 64 c ∧ ∀ k, k < 64 → w.cell? (x.add k) = some (.int .u32 (l.getD k 0 : Nat))

theorem W64.new {w w' : World} {v : Value} {l : List Nat} (h : W64 w v l) (hc : Chg (fun _ => False) w w') : W64 w' v l := by
  obtain ⟨x, c, e, hx⟩ := h
  exact ⟨x, c, e, fun k hk => cell_chg (hx k hk) hc⟩

theorem constants_any (w : World) : Calls Tryd.prog 22 #[] w fun e w' => ∃ v, e = .returned v ∧ W64 w' v Sha.K ∧ Chg (fun _ => False) w w' := by
  go_enter Tryd.func22, Tryd.ntmps22
  go_wp2
  go_ret
  refine ⟨_, rfl, ⟨⟨w.heap.size, 0, none⟩, 64, rfl, fun k hk => ?_⟩, chg_one _ _⟩
  rw [addk, Nat.zero_add]
  exact wds_cell (l := Sha.K) (heap_alloc_last w _) k (by rw [K_len]; exact hk)

/-- What the walk keeps. -/
structure Rs (w wr : World) (vb : Nat) (s r : List Nat) : Prop where
  b0 : wr.heap[w.heap.size]? = some (.cells (wds s).toArray 45 (0, 0))
  b1 : wr.heap[w.heap.size + 1]? = some (.cells (wds (fill [] 8)).toArray 45 (0, 0))
  v : wr.heap[vb]? = some (.cells (wds r).toArray 45 (0, 0))
  c : Chg (fun _ => False) w wr

theorem Rs.new {w wr wr' : World} {vb : Nat} {s r : List Nat} (h : Rs w wr vb s r) (hc : Chg (fun _ => False) wr wr') : Rs w wr' vb s r :=
  ⟨blk_keep h.b0 hc (fun f => f), blk_keep h.b1 hc (fun f => f), blk_keep h.v hc (fun f => f), chg_then h.c hc⟩

theorem Rs.set {w wr wr' : World} {vb : Nat} {s r r' : List Nat} (h : Rs w wr vb s r) (hc : Chg (fun k => k = vb) wr wr') (hv : w.heap.size + 1 < vb) (hb : wr'.heap[vb]? = some (.cells (wds r').toArray 45 (0, 0))) : Rs w wr' vb s r' :=
  ⟨blk_keep h.b0 hc (by omega), blk_keep h.b1 hc (by omega), hb, h.c.trans hc (fun i e => .inr (by omega))⟩

set_option maxHeartbeats 8000000 in
set_option maxRecDepth 100000 in
theorem refstep_any (s b : List Nat) (y : Addr) (c : Nat) (kv : Value) (w0 : World) (hs : Sha.St s) (hy : Row8 w0 (some y) 64 c (up b)) (hb : ∀ x ∈ b, x < 256) (hK : W64 w0 kv Sha.K) :
    Calls Tryd.prog 23 #[.agg (wds s).toArray, .slice (some y) 64 c, kv] w0 fun e w' => e = .returned (.agg (wds (Sha.step s b)).toArray) ∧ Chg (fun _ => False) w0 w' := by
  have HZ : Hid ((wds (fill [] 8)).toArray = #[.int .u32 0, .int .u32 0, .int .u32 0, .int .u32 0, .int .u32 0, .int .u32 0, .int .u32 0, .int .u32 0]) := rfl
  have c2 : Chg (fun _ => False) w0 ((w0.alloc (.cells (wds s).toArray 45)).alloc (.cells (wds (fill [] 8)).toArray 45)) := ((Chg.refl _ w0).alloc _).alloc _
  have h0 : ((w0.alloc (.cells (wds s).toArray 45)).alloc (.cells (wds (fill [] 8)).toArray 45)).heap[w0.heap.size]? = some (.cells (wds s).toArray 45 (0, 0)) := by
    rw [Below.heap_alloc _ _ _ (by simp), heap_alloc_last]
  have h1 : ((w0.alloc (.cells (wds s).toArray 45)).alloc (.cells (wds (fill [] 8)).toArray 45)).heap[w0.heap.size + 1]? = some (.cells (wds (fill [] 8)).toArray 45 (0, 0)) := by
    rw [show w0.heap.size + 1 = (w0.alloc (.cells (wds s).toArray 45)).heap.size by simp, heap_alloc_last]
  have hy2 := row8_chg hy c2
  have hK2 := hK.new c2
  have hi8 : (Tryd.prog.info? 45).map (·.size) = some (wds s).toArray.size := by rw [wds_size, hs.len]; exact infoA8
  have hz8 : (wds (fill [] 8)).toArray.size = (wds s).toArray.size := by rw [wds_size, wds_size, hs.len]; rfl
  clear hy hK
  go_enter Tryd.func23, Tryd.ntmps23
  go_wp2_with fail
  rw [← HZ.out]
  generalize ((w0.alloc (.cells (wds s).toArray 45)).alloc (.cells (wds (fill [] 8)).toArray 45)) = w2 at *
  refine (words_any y c b w2 hy2 hb).mono ?_
  rintro e w3 ⟨wg, wcap, rfl, hW, c3⟩
  have c03 := chg_then c2 c3
  have q0 := blk_keep h0 c3 (fun f => f)
  have q1 := blk_keep h1 c3 (fun f => f)
  have hK3 := hK2.new c3
  have hlt1 := lt_of_blk q1
  clear h0 h1 c2 c3 hy2 hK2
  have hWd := Sha.sched_wds hb 48
  have HST : Hid (Sha.step s b = Sha.sums (Sha.rnds Sha.K (Sha.sched b 48) s 64) s) := by show _ = _; rw [sums_comm]; rfl
  generalize Sha.sched b 48 = W at *
  have hR0 : Rs w0 (w3.alloc (.cells (wds s).toArray 45)) w3.heap.size s (Sha.rnds Sha.K W s 0) :=
    ⟨blk_keep q0 (chg_one _ _) (fun f => f), blk_keep q1 (chg_one _ _) (fun f => f), heap_alloc_last _ _, chg_then c03 (chg_one _ _)⟩
  obtain ⟨kx, kc, rfl, hKx⟩ := hK3
  have HKl : Hid (∀ k, k < 64 → (kx.add k).block < w3.heap.size) := fun k hk => World.block_lt_of_cell? w3 _ (hKx k hk)
  have HKx : Hid (∀ k, k < 64 → (w3.alloc (.cells (wds s).toArray 45)).cell? (kx.add k) = some (.int .u32 (Sha.K.getD k 0 : Nat))) := fun k hk => cell_chg (hKx k hk) (chg_one w3 _)
  have HWl : Hid (wg < w3.heap.size) := World.block_lt_of_cell? w3 ⟨wg, 0, none⟩ (hW 0 (by omega))
  have HWx : Hid (∀ k, k < 64 → (w3.alloc (.cells (wds s).toArray 45)).cell? ⟨wg, k, none⟩ = some (.int .u32 (W.getD k 0 : Nat))) := fun k hk => cell_chg (hW k hk) (chg_one w3 _)
  clear hKx hW
  have hal : (w3.alloc (.cells (wds (fill [] 8)).toArray 45)).heap[w3.heap.size]? = some (.cells (wds (fill [] 8)).toArray 45 (0, 0)) := heap_alloc_last _ _
  have hset := World.setRow_alloc_new w3 (wds (fill [] 8)).toArray (wds s).toArray 45
  rw [HZ.out] at hal hset hz8
  go_wp2_with (first
    | refine wpList_load_row rfl 45 (.tmp 3) rfl w0.heap.size rfl 45 _ (0, 0) _ q0 Tryd.underlying45 rfl hi8 ?_
    | refine wpList_store_row rfl 45 (.tmp 8) (.tmp 15) rfl w3.heap.size _ rfl rfl 45 _ hal hi8 hz8 (wds_one _) ?_)
  clear hal hset hz8 hi8 q0 q1 c03
  generalize w3.alloc (.cells (wds s).toArray 45) = w4 at *
  generalize w3.heap.size = vb at *
  go_loopw [9] (fun i wr => ∃ t : Nat, t ≤ 64 ∧ i = .int .i64 t ∧ Rs w0 wr vb s (Sha.rnds Sha.K W s t) ∧ Chg (fun k => k = vb) w4 wr) (fun i _ => 64 - (intOf i).toNat)
  case atStart => exact ⟨0, by omega, rfl, hR0, Chg.refl _ _⟩
  case round =>
    clear hR0
    obtain ⟨t, ht, rfl, hR, hC4⟩ := hrel
    by_cases hlt : t < 64
    · obtain ⟨na, nb, nc, nd, ne, nf, ng, nh, hE, ha, hb2, hc, hd, he, hf, hg, hh⟩ := (Sha.rnds_st hs Sha.K W t).eight
      have hRv := hR.v
      rw [hE] at hRv
      have v0 := wds_cell hRv 0 (by simp)
      have v1 := wds_cell hRv 1 (by simp)
      have v2 := wds_cell hRv 2 (by simp)
      have v3 := wds_cell hRv 3 (by simp)
      have v4 := wds_cell hRv 4 (by simp)
      have v5 := wds_cell hRv 5 (by simp)
      have v6 := wds_cell hRv 6 (by simp)
      have v7 := wds_cell hRv 7 (by simp)
      simp only [List.getD_cons_zero, List.getD_cons_succ] at v0 v1 v2 v3 v4 v5 v6 v7
      have hk := Sha.K_wds.getD t
      have hw := hWd.getD t
      have hvb : w0.heap.size + 1 < vb := by omega
      have cK : wr.cell? (kx.add t) = some (.int .u32 (Sha.K.getD t 0 : Nat)) := by
        have h := HKx.out t hlt
        have hl := HKl.out t hlt
        rw [World.cell?_of_block (w := w4) (hC4.block _ (World.block_lt_of_cell? w4 _ h) (by omega))]
        exact h
      have cW : wr.cell? ⟨wg, t, none⟩ = some (.int .u32 (W.getD t 0 : Nat)) := by
        have h := HWx.out t hlt
        have hl := HWl.out
        rw [World.cell?_of_block (w := w4) (hC4.block _ (World.block_lt_of_cell? w4 _ h) (by show ¬ wg = vb; omega))]
        exact h
      have HE : Hid (Sha.rnds Sha.K W s (t + 1) = [Sha.add (Sha.tmp1 nh ne nf ng (Sha.K.getD t 0) (W.getD t 0)) (Sha.add (Sha.bs0 na) (Sha.maj na nb nc)), na, nb, nc, Sha.add nd (Sha.tmp1 nh ne nf ng (Sha.K.getD t 0) (W.getD t 0)), ne, nf, ng]) := by
        show Sha.rnd _ _ (Sha.rnds Sha.K W s t) = _
        rw [hE, ← add_assoc]
        rfl
      have HR : Hid (Rs w0 wr vb s [na, nb, nc, nd, ne, nf, ng, nh]) := by show Rs _ _ _ _ _; rw [← hE]; exact hR
      have HC4 : Hid (Chg (fun k => k = vb) w4 wr) := hC4
      generalize Sha.K.getD t 0 = k at *
      generalize W.getD t 0 = x at *
      have f1 := fun w => three_any ne 6 11 25 w he (by decide) (by decide) (by decide) (by decide) (by decide) (by decide)
      have f2 := fun w => choose_any ne nf ng w he hf hg
      have f3 := fun w => three_any na 2 13 22 w ha (by decide) (by decide) (by decide) (by decide) (by decide) (by decide)
      have f4 := fun w => most_any na nb nc w ha hb2 hc
      rw [show Sha.rotr ne 6 ^^^ Sha.rotr ne 11 ^^^ Sha.rotr ne 25 = Sha.bs1 ne from rfl] at f1
      rw [show Sha.rotr na 2 ^^^ Sha.rotr na 13 ^^^ Sha.rotr na 22 = Sha.bs0 na from rfl] at f3
      have m1 := Sha.bs1_lt he
      have m2 := Sha.ch_lt (e := ne) hf hg
      have m3 := Sha.bs0_lt ha
      have m4 := Sha.maj_lt (a := na) hb2 hc
      have HT : Hid (Sha.tmp1 nh ne nf ng k x = Sha.add (Sha.add (Sha.add (Sha.add nh (Sha.bs1 ne)) (Sha.ch ne nf ng)) k) x) := rfl
      generalize Sha.bs1 ne = s1 at *
      generalize Sha.ch ne nf ng = cc at *
      generalize Sha.bs0 na = s0 at *
      generalize Sha.maj na nb nc = mm at *
      have p0 := add32 nh s1
      have b0 := Sha.add_lt nh s1
      generalize Sha.add nh s1 = z0 at *
      have p1 := add32 z0 cc
      have b1 := Sha.add_lt z0 cc
      generalize Sha.add z0 cc = z1 at *
      have p2 := add32 z1 k
      have b2 := Sha.add_lt z1 k
      generalize Sha.add z1 k = z2 at *
      have p3 := add32 z2 x
      have b3 := Sha.add_lt z2 x
      rw [← HT.out] at p3 b3
      clear HT
      generalize Sha.tmp1 nh ne nf ng k x = t1 at *
      have p4 := add32 s0 mm
      have b4 := Sha.add_lt s0 mm
      generalize Sha.add s0 mm = t2 at *
      have p5 := add32 t1 t2
      have b5 := Sha.add_lt t1 t2
      generalize Sha.add t1 t2 = z6 at *
      have p6 := add32 nd t1
      have b6 := Sha.add_lt nd t1
      generalize Sha.add nd t1 = z7 at *
      clear hR hE hRv hC4
      go_wp2_with fail
      generalize decide ((t : Int) < 64) = dd at *
      refine wp_region_free (mk := fun u => #[_, _, _, _, _, _, _, _, _, _, u 10, _, _, _, _, _, _, _, _, _, u 20, u 21, u 22, u 23, u 24, u 25, u 26, u 27, u 28, u 29, u 30, u 31, u 32, u 33, u 34, u 35, u 36, u 37, u 38, u 39, u 40, u 41, u 42, u 43, _, _, _, _, _, _, _, _, _, _, _, _, _, _, _, _, _, _, _, _, _, _, _, _, _, _, _, _, _, _, _, _, _, _, _, _, _, _, _, _, _, _, _, _, _]) (F := fun slot vv ww => (look [(20, .val (.pointer (some ⟨vb, 7, none⟩))), (21, .val (.int .u32 (nh : Nat))), (22, .val (.pointer (some ⟨vb, 4, none⟩))), (23, .val (.int .u32 (ne : Nat))), (24, .val (.int .u32 (s1 : Nat))), (25, .val (.int .u32 (z0 : Nat))), (26, .val (.pointer (some ⟨vb, 4, none⟩))), (27, .val (.int .u32 (ne : Nat))), (28, .val (.pointer (some ⟨vb, 5, none⟩))), (29, .val (.int .u32 (nf : Nat))), (30, .val (.pointer (some ⟨vb, 6, none⟩))), (31, .val (.int .u32 (ng : Nat))), (32, .val (.int .u32 (cc : Nat))), (33, .val (.int .u32 (z1 : Nat))), (34, .val (.slice (some kx) 64 kc)), (35, .val (.int .i64 (t : Nat))), (36, .val (.pointer (some (kx.add t)))), (37, .val (.int .u32 (k : Nat))), (38, .val (.int .u32 (z2 : Nat))), (39, .val (.slice (some ⟨wg, 0, none⟩) 64 wcap)), (40, .val (.int .i64 (t : Nat))), (41, .val (.pointer (some ⟨wg, t, none⟩))), (42, .val (.int .u32 (x : Nat))), (43, .val (.int .u32 (t1 : Nat))), (10, .val (.int .u32 (t1 : Nat)))] slot).holds vv ww) (fun t => if t = 10 then u10 else if t = 20 then u20 else if t = 21 then u21 else if t = 22 then u22 else if t = 23 then u23 else if t = 24 then u24 else if t = 25 then u25 else if t = 26 then u26 else if t = 27 then u27 else if t = 28 then u28 else if t = 29 then u29 else if t = 30 then u30 else if t = 31 then u31 else if t = 32 then u32 else if t = 33 then u33 else if t = 34 then u34 else if t = 35 then u35 else if t = 36 then u36 else if t = 37 then u37 else if t = 38 then u38 else if t = 39 then u39 else if t = 40 then u40 else if t = 41 then u41 else if t = 42 then u42 else if t = 43 then u43 else undef) rfl (by kernel_rfl) (by kernel_rfl) ?_ (fun _ v w w' hc h => Fact.stays _ v w w' hc h) ?_ ?_
      · repeat (refine ⟨⟨_, rfl, fun _ _ => rfl⟩, ?_⟩)
        exact trivial
      · refine ⟨?_, ?_, ?_, ?_, ?_, ?_, ?_, ?_, ?_, ?_, ?_, ?_, ?_, ?_, ?_, ?_, ?_, ?_, ?_, ?_, ?_, ?_, ?_, ?_, ?_, trivial⟩
        · intro u w hc hd K hK -- 20
          clear hd
          go_simp
          exact hK.out (.pointer (some ⟨vb, 7, none⟩)) w (Chg.refl _ _) rfl
        · intro u w hc hd K hK -- 21
          have h20 : (Fact.val (.pointer (some ⟨vb, 7, none⟩))).holds (u 20) w := hd.get 0 (by kernel_rfl)
          simp only [Fact.holds] at h20
          clear hd
          simp only [h20] at hK
          have hcell := cell_chg v7 hc
          go_simp
          exact hK.out _ _ (Chg.refl _ _) rfl
        · intro u w hc hd K hK -- 22
          clear hd
          go_simp
          exact hK.out (.pointer (some ⟨vb, 4, none⟩)) w (Chg.refl _ _) rfl
        · intro u w hc hd K hK -- 23
          have h22 : (Fact.val (.pointer (some ⟨vb, 4, none⟩))).holds (u 22) w := hd.get 2 (by kernel_rfl)
          simp only [Fact.holds] at h22
          clear hd
          simp only [h22] at hK
          have hcell := cell_chg v4 hc
          go_simp
          exact hK.out _ _ (Chg.refl _ _) rfl
        · intro u w hc hd K hK -- 24
          have h23 : (Fact.val (.int .u32 (ne : Nat))).holds (u 23) w := hd.get 3 (by kernel_rfl)
          simp only [Fact.holds] at h23
          clear hd
          simp only [h23] at hK
          go_simp
          go_at_call 32
          refine (f1 w).mono ?_
          rintro e w1 ⟨rfl, cc_⟩
          exact hK.out _ _ (cc_) rfl
        · intro u w hc hd K hK -- 25
          have h21 : (Fact.val (.int .u32 (nh : Nat))).holds (u 21) w := hd.get 1 (by kernel_rfl)
          simp only [Fact.holds] at h21
          have h24 : (Fact.val (.int .u32 (s1 : Nat))).holds (u 24) w := hd.get 4 (by kernel_rfl)
          simp only [Fact.holds] at h24
          clear hd
          simp only [h21, h24] at hK
          go_simp
          exact hK.out (.int .u32 (z0 : Nat)) w (Chg.refl _ _) rfl
        · intro u w hc hd K hK -- 26
          clear hd
          go_simp
          exact hK.out (.pointer (some ⟨vb, 4, none⟩)) w (Chg.refl _ _) rfl
        · intro u w hc hd K hK -- 27
          have h26 : (Fact.val (.pointer (some ⟨vb, 4, none⟩))).holds (u 26) w := hd.get 6 (by kernel_rfl)
          simp only [Fact.holds] at h26
          clear hd
          simp only [h26] at hK
          have hcell := cell_chg v4 hc
          go_simp
          exact hK.out _ _ (Chg.refl _ _) rfl
        · intro u w hc hd K hK -- 28
          clear hd
          go_simp
          exact hK.out (.pointer (some ⟨vb, 5, none⟩)) w (Chg.refl _ _) rfl
        · intro u w hc hd K hK -- 29
          have h28 : (Fact.val (.pointer (some ⟨vb, 5, none⟩))).holds (u 28) w := hd.get 8 (by kernel_rfl)
          simp only [Fact.holds] at h28
          clear hd
          simp only [h28] at hK
          have hcell := cell_chg v5 hc
          go_simp
          exact hK.out _ _ (Chg.refl _ _) rfl
        · intro u w hc hd K hK -- 30
          clear hd
          go_simp
          exact hK.out (.pointer (some ⟨vb, 6, none⟩)) w (Chg.refl _ _) rfl
        · intro u w hc hd K hK -- 31
          have h30 : (Fact.val (.pointer (some ⟨vb, 6, none⟩))).holds (u 30) w := hd.get 10 (by kernel_rfl)
          simp only [Fact.holds] at h30
          clear hd
          simp only [h30] at hK
          have hcell := cell_chg v6 hc
          go_simp
          exact hK.out _ _ (Chg.refl _ _) rfl
        · intro u w hc hd K hK -- 32
          have h27 : (Fact.val (.int .u32 (ne : Nat))).holds (u 27) w := hd.get 7 (by kernel_rfl)
          simp only [Fact.holds] at h27
          have h29 : (Fact.val (.int .u32 (nf : Nat))).holds (u 29) w := hd.get 9 (by kernel_rfl)
          simp only [Fact.holds] at h29
          have h31 : (Fact.val (.int .u32 (ng : Nat))).holds (u 31) w := hd.get 11 (by kernel_rfl)
          simp only [Fact.holds] at h31
          clear hd
          simp only [h27, h29, h31] at hK
          go_simp
          go_at_call 33
          refine (f2 w).mono ?_
          rintro e w1 ⟨rfl, rfl⟩
          exact hK.out _ _ (Chg.refl _ _) rfl
        · intro u w hc hd K hK -- 33
          have h25 : (Fact.val (.int .u32 (z0 : Nat))).holds (u 25) w := hd.get 5 (by kernel_rfl)
          simp only [Fact.holds] at h25
          have h32 : (Fact.val (.int .u32 (cc : Nat))).holds (u 32) w := hd.get 12 (by kernel_rfl)
          simp only [Fact.holds] at h32
          clear hd
          simp only [h25, h32] at hK
          go_simp
          exact hK.out (.int .u32 (z1 : Nat)) w (Chg.refl _ _) rfl
        · intro u w hc hd K hK -- 34
          clear hd
          go_simp
          exact hK.out (.slice (some kx) 64 kc) w (Chg.refl _ _) rfl
        · intro u w hc hd K hK -- 35
          clear hd
          go_simp
          exact hK.out (.int .i64 (t : Nat)) w (Chg.refl _ _) rfl
        · intro u w hc hd K hK -- 36
          have h34 : (Fact.val (.slice (some kx) 64 kc)).holds (u 34) w := hd.get 14 (by kernel_rfl)
          simp only [Fact.holds] at h34
          have h35 : (Fact.val (.int .i64 (t : Nat))).holds (u 35) w := hd.get 15 (by kernel_rfl)
          simp only [Fact.holds] at h35
          clear hd
          simp only [h34, h35] at hK
          go_simp
          exact hK.out (.pointer (some (kx.add t))) w (Chg.refl _ _) rfl
        · intro u w hc hd K hK -- 37
          have h36 : (Fact.val (.pointer (some (kx.add t)))).holds (u 36) w := hd.get 16 (by kernel_rfl)
          simp only [Fact.holds] at h36
          clear hd
          simp only [h36] at hK
          have hcell := cell_chg cK hc
          go_simp
          exact hK.out _ _ (Chg.refl _ _) rfl
        · intro u w hc hd K hK -- 38
          have h33 : (Fact.val (.int .u32 (z1 : Nat))).holds (u 33) w := hd.get 13 (by kernel_rfl)
          simp only [Fact.holds] at h33
          have h37 : (Fact.val (.int .u32 (k : Nat))).holds (u 37) w := hd.get 17 (by kernel_rfl)
          simp only [Fact.holds] at h37
          clear hd
          simp only [h33, h37] at hK
          go_simp
          exact hK.out (.int .u32 (z2 : Nat)) w (Chg.refl _ _) rfl
        · intro u w hc hd K hK -- 39
          clear hd
          go_simp
          exact hK.out (.slice (some ⟨wg, 0, none⟩) 64 wcap) w (Chg.refl _ _) rfl
        · intro u w hc hd K hK -- 40
          clear hd
          go_simp
          exact hK.out (.int .i64 (t : Nat)) w (Chg.refl _ _) rfl
        · intro u w hc hd K hK -- 41
          have h39 : (Fact.val (.slice (some ⟨wg, 0, none⟩) 64 wcap)).holds (u 39) w := hd.get 19 (by kernel_rfl)
          simp only [Fact.holds] at h39
          have h40 : (Fact.val (.int .i64 (t : Nat))).holds (u 40) w := hd.get 20 (by kernel_rfl)
          simp only [Fact.holds] at h40
          clear hd
          simp only [h39, h40] at hK
          go_simp
          exact hK.out (.pointer (some ⟨wg, t, none⟩)) w (Chg.refl _ _) rfl
        · intro u w hc hd K hK -- 42
          have h41 : (Fact.val (.pointer (some ⟨wg, t, none⟩))).holds (u 41) w := hd.get 21 (by kernel_rfl)
          simp only [Fact.holds] at h41
          clear hd
          simp only [h41] at hK
          have hcell := cell_chg cW hc
          go_simp
          exact hK.out _ _ (Chg.refl _ _) rfl
        · intro u w hc hd K hK -- 43
          have h38 : (Fact.val (.int .u32 (z2 : Nat))).holds (u 38) w := hd.get 18 (by kernel_rfl)
          simp only [Fact.holds] at h38
          have h42 : (Fact.val (.int .u32 (x : Nat))).holds (u 42) w := hd.get 22 (by kernel_rfl)
          simp only [Fact.holds] at h42
          clear hd
          simp only [h38, h42] at hK
          go_simp
          exact hK.out (.int .u32 (t1 : Nat)) w (Chg.refl _ _) rfl
        · intro u w hc hd K hK -- 10
          have h43 : (Fact.val (.int .u32 (t1 : Nat))).holds (u 43) w := hd.get 23 (by kernel_rfl)
          simp only [Fact.holds] at h43
          clear hd
          simp only [h43] at hK
          go_simp
          exact hK.out (.int .u32 (t1 : Nat)) w (Chg.refl _ _) rfl
      · intro u w hc hA
        have e10 : u 10 = _ := hA.at 10 (by kernel_rfl)
        clear hA
        rw [e10]
        clear e10
        have C6 := hc
        have w0_ := cell_chg v0 C6
        have w1_ := cell_chg v1 C6
        have w2_ := cell_chg v2 C6
        go_wp2_with fail
        refine wp_region_free (mk := fun u => #[_, _, _, _, _, _, _, _, _, _, _, u 11, _, _, _, _, _, _, _, _, _, _, _, _, _, _, _, _, _, _, _, _, _, _, _, _, _, _, _, _, _, _, _, _, u 44, u 45, u 46, u 47, u 48, u 49, u 50, u 51, u 52, u 53, u 54, _, _, _, _, _, _, _, _, _, _, _, _, _, _, _, _, _, _, _, _, _, _, _, _, _, _, _, _, _, _, _, _, _, _]) (F := fun slot vv ww => (look [(44, .val (.pointer (some ⟨vb, 0, none⟩))), (45, .val (.int .u32 (na : Nat))), (46, .val (.int .u32 (s0 : Nat))), (47, .val (.pointer (some ⟨vb, 0, none⟩))), (48, .val (.int .u32 (na : Nat))), (49, .val (.pointer (some ⟨vb, 1, none⟩))), (50, .val (.int .u32 (nb : Nat))), (51, .val (.pointer (some ⟨vb, 2, none⟩))), (52, .val (.int .u32 (nc : Nat))), (53, .val (.int .u32 (mm : Nat))), (54, .val (.int .u32 (t2 : Nat))), (11, .val (.int .u32 (t2 : Nat)))] slot).holds vv ww) (fun t => if t = 11 then u11 else if t = 44 then u44 else if t = 45 then u45 else if t = 46 then u46 else if t = 47 then u47 else if t = 48 then u48 else if t = 49 then u49 else if t = 50 then u50 else if t = 51 then u51 else if t = 52 then u52 else if t = 53 then u53 else if t = 54 then u54 else undef) rfl (by kernel_rfl) (by kernel_rfl) ?_ (fun _ v w w' hc h => Fact.stays _ v w w' hc h) ?_ ?_
        · repeat (refine ⟨⟨_, rfl, fun _ _ => rfl⟩, ?_⟩)
          exact trivial
        · refine ⟨?_, ?_, ?_, ?_, ?_, ?_, ?_, ?_, ?_, ?_, ?_, ?_, trivial⟩
          · intro u w hc hd K hK -- 44
            clear hd
            go_simp
            exact hK.out (.pointer (some ⟨vb, 0, none⟩)) w (Chg.refl _ _) rfl
          · intro u w hc hd K hK -- 45
            have h44 : (Fact.val (.pointer (some ⟨vb, 0, none⟩))).holds (u 44) w := hd.get 0 (by kernel_rfl)
            simp only [Fact.holds] at h44
            clear hd
            simp only [h44] at hK
            have hcell := cell_chg w0_ hc
            go_simp
            exact hK.out _ _ (Chg.refl _ _) rfl
          · intro u w hc hd K hK -- 46
            have h45 : (Fact.val (.int .u32 (na : Nat))).holds (u 45) w := hd.get 1 (by kernel_rfl)
            simp only [Fact.holds] at h45
            clear hd
            simp only [h45] at hK
            go_simp
            go_at_call 32
            refine (f3 w).mono ?_
            rintro e w1 ⟨rfl, cc_⟩
            exact hK.out _ _ (cc_) rfl
          · intro u w hc hd K hK -- 47
            clear hd
            go_simp
            exact hK.out (.pointer (some ⟨vb, 0, none⟩)) w (Chg.refl _ _) rfl
          · intro u w hc hd K hK -- 48
            have h47 : (Fact.val (.pointer (some ⟨vb, 0, none⟩))).holds (u 47) w := hd.get 3 (by kernel_rfl)
            simp only [Fact.holds] at h47
            clear hd
            simp only [h47] at hK
            have hcell := cell_chg w0_ hc
            go_simp
            exact hK.out _ _ (Chg.refl _ _) rfl
          · intro u w hc hd K hK -- 49
            clear hd
            go_simp
            exact hK.out (.pointer (some ⟨vb, 1, none⟩)) w (Chg.refl _ _) rfl
          · intro u w hc hd K hK -- 50
            have h49 : (Fact.val (.pointer (some ⟨vb, 1, none⟩))).holds (u 49) w := hd.get 5 (by kernel_rfl)
            simp only [Fact.holds] at h49
            clear hd
            simp only [h49] at hK
            have hcell := cell_chg w1_ hc
            go_simp
            exact hK.out _ _ (Chg.refl _ _) rfl
          · intro u w hc hd K hK -- 51
            clear hd
            go_simp
            exact hK.out (.pointer (some ⟨vb, 2, none⟩)) w (Chg.refl _ _) rfl
          · intro u w hc hd K hK -- 52
            have h51 : (Fact.val (.pointer (some ⟨vb, 2, none⟩))).holds (u 51) w := hd.get 7 (by kernel_rfl)
            simp only [Fact.holds] at h51
            clear hd
            simp only [h51] at hK
            have hcell := cell_chg w2_ hc
            go_simp
            exact hK.out _ _ (Chg.refl _ _) rfl
          · intro u w hc hd K hK -- 53
            have h48 : (Fact.val (.int .u32 (na : Nat))).holds (u 48) w := hd.get 4 (by kernel_rfl)
            simp only [Fact.holds] at h48
            have h50 : (Fact.val (.int .u32 (nb : Nat))).holds (u 50) w := hd.get 6 (by kernel_rfl)
            simp only [Fact.holds] at h50
            have h52 : (Fact.val (.int .u32 (nc : Nat))).holds (u 52) w := hd.get 8 (by kernel_rfl)
            simp only [Fact.holds] at h52
            clear hd
            simp only [h48, h50, h52] at hK
            go_simp
            go_at_call 34
            refine (f4 w).mono ?_
            rintro e w1 ⟨rfl, rfl⟩
            exact hK.out _ _ (Chg.refl _ _) rfl
          · intro u w hc hd K hK -- 54
            have h46 : (Fact.val (.int .u32 (s0 : Nat))).holds (u 46) w := hd.get 2 (by kernel_rfl)
            simp only [Fact.holds] at h46
            have h53 : (Fact.val (.int .u32 (mm : Nat))).holds (u 53) w := hd.get 9 (by kernel_rfl)
            simp only [Fact.holds] at h53
            clear hd
            simp only [h46, h53] at hK
            go_simp
            exact hK.out (.int .u32 (t2 : Nat)) w (Chg.refl _ _) rfl
          · intro u w hc hd K hK -- 11
            have h54 : (Fact.val (.int .u32 (t2 : Nat))).holds (u 54) w := hd.get 10 (by kernel_rfl)
            simp only [Fact.holds] at h54
            clear hd
            simp only [h54] at hK
            go_simp
            exact hK.out (.int .u32 (t2 : Nat)) w (Chg.refl _ _) rfl
        · intro u w hc hA
          have e11 : u 11 = _ := hA.at 11 (by kernel_rfl)
          clear hA
          rw [e11]
          clear e11
          have C7 := chg_then C6 hc
          have v0 := cell_chg v0 C7
          have v1 := cell_chg v1 C7
          have v2 := cell_chg v2 C7
          have v3 := cell_chg v3 C7
          have v4 := cell_chg v4 C7
          have v5 := cell_chg v5 C7
          have v6 := cell_chg v6 C7
          have hR7 := HR.out.new C7
          have hRv := hR7.v
          have HC7 : Hid (Chg (fun k => k = vb) w4 w) := HC4.out.trans C7 (fun _ f => f.elim)
          clear p0 p1 p2 p3 p4 f1 f2 f3 f4 cK cW w0_ w1_ w2_ C6 hc C7
          go_wp2_with (refine wpList_store_row rfl 45 (.tmp 8) (.tmp 74) rfl vb (wds [z6, na, nb, nc, z7, ne, nf, ng]).toArray rfl rfl 45 _ hRv infoA8 rfl (wds_one _) ?_)
          go_roundw
          case rel =>
            refine ⟨t + 1, by omega, by go_num, ?_, HC7.out.trans (chg_setRow _ _ _) (fun _ e => .inl e)⟩
            rw [HE.out]
            exact hR7.set (chg_setRow _ _ _) hvb (setRow_heap _ _ _ _ _ _ hRv)
          case measure => simp [intOf]; omega
    · rw [show t = 64 by omega] at hR
      have hst := Sha.rnds_st hs Sha.K W 64
      clear hC4
      generalize Sha.rnds Sha.K W s 64 = r at *
      have hvb : w0.heap.size + 1 < vb := by omega
      go_wp2_with fail
      go_loopw [12] (fun i ws => ∃ k : Nat, k ≤ 8 ∧ i = .int .i64 k ∧ Rs w0 ws vb s (part r s k)) (fun i _ => 8 - (intOf i).toNat)
      case atStart => exact ⟨0, by omega, rfl, by rw [part_none hst.len]; exact hR⟩
      case round =>
        clear hR
        obtain ⟨k, hk, rfl, hR⟩ := hrel
        by_cases hlt2 : k < 8
        · have c0 := wds_cell hR.v k (by rw [part_len]; exact hlt2)
          have c5 := wds_cell hR.b0 k (by rw [hs.len]; exact hlt2)
          rw [part_here r s hlt2] at c0
          have l0 := hst.wds.getD k
          have l1 := hs.wds.getD k
          have f0 : wr.frozen? ⟨vb, k, none⟩ = false := by simp [World.frozen?, hR.v]
          have e0 := add32 (r.getD k 0) (s.getD k 0)
          have HR : Hid (Rs w0 ((wr.setCell ⟨vb, k, none⟩ (.int .u32 (Sha.add (r.getD k 0) (s.getD k 0) : Nat))).drew) vb s (part r s (k + 1))) := by
            refine hR.set (((Chg.refl (fun k => k = vb) wr).setCell (p := ⟨vb, k, none⟩) (.inl rfl) _).drew) hvb ?_
            show (wr.setCell _ _).heap[_]? = _
            rw [blk_setk hR.v, wds_set, part_step]
          generalize Sha.add (r.getD k 0) (s.getD k 0) = z at *
          generalize r.getD k 0 = x at *
          generalize s.getD k 0 = y' at *
          clear hR hs hst
          go_wp2_with fail
          go_region
          go_wp2
          go_roundw
          case rel => exact ⟨k + 1, by omega, by go_num, HR.out⟩
          case measure => simp [intOf]; omega
        · rw [show k = 8 by omega, part_all] at hR
          have hi : (Tryd.prog.info? 45).map (·.size) = some (wds (Sha.sums r s)).toArray.size := by rw [wds_size, (Sha.sums_st r s).len]; exact infoA8
          have hz : (wds (fill [] 8)).toArray.size = (wds (Sha.sums r s)).toArray.size := by rw [wds_size, wds_size, (Sha.sums_st r s).len]; rfl
          have q0 := hR.v
          have q1 := hR.b1
          have hc := hR.c
          clear hR hs hst
          go_wp2_with (first
            | refine wpList_load_row rfl 45 (.tmp 8) rfl vb rfl 45 _ (0, 0) _ q0 Tryd.underlying45 rfl hi ?_
            | refine wpList_store_row rfl 45 (.tmp 6) (.tmp 88) rfl (w0.heap.size + 1) _ rfl rfl 45 _ q1 hi hz (wds_one _) ?_)
          (try simp only [Exit.inBlock, Exit.then])
          refine bodyPost_ret (results_cell_row rfl _ _ (w0.heap.size + 1) 45 (wds (Sha.sums r s)).toArray (0, 0) _ rfl (setRow_heap _ _ _ _ _ _ q1) Tryd.underlying45 rfl hi) rfl ⟨by rw [HST.out], ?_⟩
          exact hc.trans (chg_setRow _ _ _) (fun b hb => .inr (by omega))
end Go.Proofs.YtnedllhlmddmoabDoor
