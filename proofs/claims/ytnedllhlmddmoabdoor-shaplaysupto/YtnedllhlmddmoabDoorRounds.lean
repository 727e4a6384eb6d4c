/- The 64 rounds: the contract of rounds; of no statement by itself. -/
import Derived.Test.YtnedllhlmddmoabDoorSpread
namespace Go.Proofs.YtnedllhlmddmoabDoor
open Go.RowKit

/-- What the walk keeps. -/
structure Rnd (w wr : World) (W : List Nat) : Prop where
  h1 : wr.heap[w.heap.size + 1]? = some (.cells (wds W).toArray 70 (0, 0))
  h2 : wr.heap[w.heap.size + 1 + 1]? = some (.cells (wds (fill [] 8)).toArray 45 (0, 0))
  c : Chg (fun _ => False) w wr
  t : TabK wr

theorem Rnd.same {w wr wr' : World} {W : List Nat} (h : Rnd w wr W) (hc : Chg (fun _ => False) wr wr') : Rnd w wr' W :=
  ⟨blk_keep h.h1 hc (fun f => f), blk_keep h.h2 hc (fun f => f), chg_then h.c hc, h.t.new hc⟩

theorem chg_drewN (w : World) (n : Nat) : Chg (fun _ => False) w (w.drewN n) := ⟨rfl, rfl, rfl, Nat.le_refl _, fun _ _ _ => rfl⟩

theorem K_len : Sha.K.length = 64 := rfl

set_option maxHeartbeats 8000000 in
set_option maxRecDepth 100000 in
theorem rounds_any (s W : List Nat) (w : World) (hT : TabK w) (hs : Sha.St s) (hW : Sha.Wds W) (hWl : W.length = 64) :
    Calls Tryd.prog 29 #[.agg (wds s).toArray, .agg (wds W).toArray] w fun e w' => e = .returned (.agg (wds (Sha.rnds Sha.K W s 64)).toArray) ∧ Chg (fun _ => False) w w' := by
  have HS : Hid (Sha.St s) := hs
  obtain ⟨a, b, c, d, e, f, g, h, rfl, ha, hb, hc, hd, he, hf, hg, hh⟩ := hs.eight
  clear hs
  have hR : Rnd w (((w.alloc (.cells (wds [a, b, c, d, e, f, g, h]).toArray 45)).alloc (.cells (wds W).toArray 70)).alloc (.cells (wds (fill [] 8)).toArray 45)) W := by
    refine ⟨?_, ?_, (((Chg.refl _ w).alloc _).alloc _).alloc _, hT.new ((((Chg.refl _ w).alloc _).alloc _).alloc _)⟩
    · rw [Below.heap_alloc _ _ _ (by simp), show w.heap.size + 1 = (w.alloc (.cells (wds [a, b, c, d, e, f, g, h]).toArray 45)).heap.size by simp, heap_alloc_last]
    · rw [show w.heap.size + 1 + 1 = ((w.alloc (.cells (wds [a, b, c, d, e, f, g, h]).toArray 45)).alloc (.cells (wds W).toArray 70)).heap.size by simp, heap_alloc_last]
  have h0 : (((w.alloc (.cells (wds [a, b, c, d, e, f, g, h]).toArray 45)).alloc (.cells (wds W).toArray 70)).alloc (.cells (wds (fill [] 8)).toArray 45)).heap[w.heap.size]? = some (.cells (wds [a, b, c, d, e, f, g, h]).toArray 45 (0, 0)) := by
    rw [Below.heap_alloc _ _ _ (by simp; omega), Below.heap_alloc _ _ _ (by simp), heap_alloc_last]
  have HZ : Hid ((wds (fill [] 8)).toArray = #[.int .u32 0, .int .u32 0, .int .u32 0, .int .u32 0, .int .u32 0, .int .u32 0, .int .u32 0, .int .u32 0]) := rfl
  clear hT
  go_enter Tryd.func29, Tryd.ntmps29
  go_wp2_with fail
  rw [← HZ.out]
  generalize (((w.alloc (.cells (wds [a, b, c, d, e, f, g, h]).toArray 45)).alloc (.cells (wds W).toArray 70)).alloc (.cells (wds (fill [] 8)).toArray 45)) = w0 at *
  have c0 := wds_cell h0 0 (by simp)
  have c1 := wds_cell h0 1 (by simp)
  have c2 := wds_cell h0 2 (by simp)
  have c3 := wds_cell h0 3 (by simp)
  have c4 := wds_cell h0 4 (by simp)
  have c5 := wds_cell h0 5 (by simp)
  have c6 := wds_cell h0 6 (by simp)
  have c7 := wds_cell h0 7 (by simp)
  simp only [List.getD_cons_zero, List.getD_cons_succ] at c0 c1 c2 c3 c4 c5 c6 c7
  clear h0 HZ
  go_quiet (fail)
  go_wp2_with fail
  go_quiet (fail)
  go_wp2_with fail
  go_loopw [35, 5, 6, 7, 8, 9, 10, 11, 12] (fun i va vb vc vd ve vf vg vh wr => ∃ t na nb nc nd ne nf ng nh : Nat, t ≤ 64 ∧ i = .int .i64 t ∧ va = .int .u32 na ∧ vb = .int .u32 nb ∧ vc = .int .u32 nc ∧ vd = .int .u32 nd ∧ ve = .int .u32 ne ∧ vf = .int .u32 nf ∧ vg = .int .u32 ng ∧ vh = .int .u32 nh ∧ Sha.rnds Sha.K W [a, b, c, d, e, f, g, h] t = [na, nb, nc, nd, ne, nf, ng, nh] ∧ Rnd w wr W) (fun i _ _ _ _ _ _ _ _ _ => 64 - (intOf i).toNat)
  case atStart => exact ⟨0, a, b, c, d, e, f, g, h, by omega, rfl, rfl, rfl, rfl, rfl, rfl, rfl, rfl, rfl, rfl, hR.same ⟨rfl, rfl, rfl, Nat.le_refl _, fun _ _ _ => rfl⟩⟩
  case round =>
    clear hR ha hb hc hd he hf hg hh c0 c1 c2 c3 c4 c5 c6 c7
    obtain ⟨t, na, nb, nc, nd, ne, nf, ng, nh, ht, rfl, rfl, rfl, rfl, rfl, rfl, rfl, rfl, rfl, hE, hR⟩ := hrel
    by_cases hlt : t < 64
    · have hst := Sha.rnds_st HS.out Sha.K W t
      rw [hE] at hst
      have ha := hst.wds na (by simp)
      have hb := hst.wds nb (by simp)
      have hc := hst.wds nc (by simp)
      have hd := hst.wds nd (by simp)
      have he := hst.wds ne (by simp)
      have hf := hst.wds nf (by simp)
      have hg := hst.wds ng (by simp)
      have hh := hst.wds nh (by simp)
      have hk := Sha.K_wds.getD t
      have hw := hW.getD t
      obtain ⟨tt, fr, hK⟩ := hR.t.t1
      have cK := wds_cell hK t (by rw [K_len]; exact hlt)
      have cW := wds_cell hR.h1 t (by rw [hWl]; exact hlt)
      have HE : Hid (Sha.rnds Sha.K W [a, b, c, d, e, f, g, h] (t + 1) = [Sha.add (Sha.add (Sha.tmp1 nh ne nf ng (Sha.K.getD t 0) (W.getD t 0)) (Sha.bs0 na)) (Sha.maj na nb nc), na, nb, nc, Sha.add nd (Sha.tmp1 nh ne nf ng (Sha.K.getD t 0) (W.getD t 0)), ne, nf, ng]) := by
        show Sha.rnd _ _ (Sha.rnds Sha.K W [a, b, c, d, e, f, g, h] t) = _
        rw [hE]
        rfl
      have HR : Hid (Rnd w wr W) := hR
      generalize Sha.K.getD t 0 = k at *
      generalize W.getD t 0 = x at *
      have r0 := Sha.rotr_lt 6 he
      have r1 := Sha.rotr_lt 11 he
      have r2 := Sha.rotr_lt 25 he
      have e0 := xor32 _ _ r0 r1
      have e1 : bits .xor .u32 ((Sha.rotr ne 6 ^^^ Sha.rotr ne 11 : Nat) : Int) ((Sha.rotr ne 25 : Nat) : Int) = ((Sha.bs1 ne : Nat) : Int) := xor32 _ _ (Sha.xor_lt r0 r1) r2
      have l1 := Sha.bs1_lt he
      clear hR hE hst hK
      go_wp2_with fail
      refine (rotated_any ne 6 _ he (by decide)).mono ?_
      rintro e' w1 ⟨rfl, rfl⟩
      generalize Sha.rotr ne 6 = y0 at *
      go_wp2_with fail
      refine (rotated_any ne 11 _ he (by decide)).mono ?_
      rintro e' w1 ⟨rfl, rfl⟩
      generalize Sha.rotr ne 11 = y1 at *
      generalize y0 ^^^ y1 = y01 at *
      go_wp2_with fail
      refine (rotated_any ne 25 _ he (by decide)).mono ?_
      rintro e' w1 ⟨rfl, rfl⟩
      generalize Sha.rotr ne 25 = y2 at *
      have lc := Sha.ch_lt (e := ne) hf hg
      have q0 := and32 ne nf he hf
      have q1 := not32 ne he
      have q2 := and32 (Sha.not ne) ng (Sha.not_lt he) hg
      have q3 : bits .xor .u32 ((ne &&& nf : Nat) : Int) ((Sha.not ne &&& ng : Nat) : Int) = ((Sha.ch ne nf ng : Nat) : Int) := xor32 _ _ (Sha.and_lt _ hf) (Sha.and_lt _ hg)
      have HT : Hid (Sha.tmp1 nh ne nf ng k x = Sha.add (Sha.add (Sha.add (Sha.add nh (Sha.bs1 ne)) (Sha.ch ne nf ng)) k) x) := rfl
      generalize Sha.bs1 ne = s1 at *
      generalize Sha.ch ne nf ng = cc at *
      generalize Sha.not ne = nn at *
      generalize nn &&& ng = n1 at *
      generalize ne &&& nf = n2 at *
      have p0 := add32 nh s1
      have b0 := Sha.add_lt nh s1
      generalize Sha.add nh s1 = z0 at *
      have p1 := add32 z0 cc
      have b1 := Sha.add_lt z0 cc
      generalize Sha.add z0 cc = z1 at *
      have p2 := add32 z1 k
      have b2 := Sha.add_lt z1 k
      generalize Sha.add z1 k = z2 at *
      have p3 := add32 z2 x
      have b3 := Sha.add_lt z2 x
      rw [← HT.out] at p3 b3
      clear HT
      generalize Sha.tmp1 nh ne nf ng k x = t1 at *
      go_wp2_with fail
      clear e0 e1 q0 q1 q2 q3 r0 r1 r2
      go_quiet (fail)
      have r0 := Sha.rotr_lt 2 ha
      have r1 := Sha.rotr_lt 13 ha
      have r2 := Sha.rotr_lt 22 ha
      have e0 := xor32 _ _ r0 r1
      have e1 : bits .xor .u32 ((Sha.rotr na 2 ^^^ Sha.rotr na 13 : Nat) : Int) ((Sha.rotr na 22 : Nat) : Int) = ((Sha.bs0 na : Nat) : Int) := xor32 _ _ (Sha.xor_lt r0 r1) r2
      have l2 := Sha.bs0_lt ha
      clear p0 p1 p2 p3 cK cW
      go_wp2_with fail
      refine (rotated_any na 2 _ ha (by decide)).mono ?_
      rintro e' w1 ⟨rfl, rfl⟩
      generalize Sha.rotr na 2 = y3 at *
      go_wp2_with fail
      refine (rotated_any na 13 _ ha (by decide)).mono ?_
      rintro e' w1 ⟨rfl, rfl⟩
      generalize Sha.rotr na 13 = y4 at *
      generalize y3 ^^^ y4 = y34 at *
      go_wp2_with fail
      refine (rotated_any na 22 _ ha (by decide)).mono ?_
      rintro e' w1 ⟨rfl, rfl⟩
      generalize Sha.rotr na 22 = y5 at *
      have lm := Sha.maj_lt (a := na) hb hc
      have q0 := and32 na nb ha hb
      have q1 := and32 na nc ha hc
      have q2 := and32 nb nc hb hc
      have q3 := xor32 _ _ (Sha.and_lt na hb) (Sha.and_lt na hc)
      have q4 : bits .xor .u32 (((na &&& nb) ^^^ (na &&& nc) : Nat) : Int) ((nb &&& nc : Nat) : Int) = ((Sha.maj na nb nc : Nat) : Int) := xor32 _ _ (Sha.xor_lt (Sha.and_lt na hb) (Sha.and_lt na hc)) (Sha.and_lt nb hc)
      generalize Sha.bs0 na = s0 at *
      generalize Sha.maj na nb nc = mm at *
      generalize (na &&& nb) ^^^ (na &&& nc) = m3 at *
      generalize na &&& nb = m0 at *
      generalize na &&& nc = m1 at *
      generalize nb &&& nc = m2 at *
      have p0 := add32 t1 s0
      have b0 := Sha.add_lt t1 s0
      generalize Sha.add t1 s0 = z5 at *
      have p1 := add32 z5 mm
      have b1 := Sha.add_lt z5 mm
      generalize Sha.add z5 mm = z6 at *
      have p2 := add32 nd t1
      have b2 := Sha.add_lt nd t1
      generalize Sha.add nd t1 = z7 at *
      go_wp2
      go_roundw
      case rel => exact ⟨t + 1, _, _, _, _, _, _, _, _, by omega, by go_num, rfl, rfl, rfl, rfl, rfl, rfl, rfl, rfl, HE.out, HR.out.same ⟨rfl, rfl, rfl, Nat.le_refl _, fun _ _ _ => rfl⟩⟩
      case measure => simp [intOf]; omega
    · have HE2 : Hid (Sha.rnds Sha.K W [a, b, c, d, e, f, g, h] 64 = [na, nb, nc, nd, ne, nf, ng, nh]) := by rw [show t = 64 by omega] at hE; exact hE
      have h2 := hR.h2
      have hc := hR.c
      have hi : (Tryd.prog.info? 45).map (·.size) = some (wds [na, nb, nc, nd, ne, nf, ng, nh]).toArray.size := infoA8
      clear hR hE HS hW hWl
      go_wp2_with (first
        | refine wpList_store_row rfl 45 (.tmp 4) (.tmp 109) rfl (w.heap.size + 1 + 1) (wds [na, nb, nc, nd, ne, nf, ng, nh]).toArray rfl rfl 45 _ h2 hi rfl (wds_one _) ?_)
      (try simp only [Exit.inBlock, Exit.then])
      refine bodyPost_ret (results_cell_row rfl _ _ (w.heap.size + 1 + 1) 45 (wds [na, nb, nc, nd, ne, nf, ng, nh]).toArray (0, 0) _ rfl (setRow_heap _ _ _ _ _ _ h2) Tryd.underlying45 rfl hi) rfl ⟨by rw [HE2.out], ?_⟩
      exact hc.trans (T := fun b => b = w.heap.size + 1 + 1) ⟨rfl, rfl, rfl, by simp, fun b _ hb => setRow_other _ _ _ _ hb⟩ (fun b hb => .inr (by omega))
end Go.Proofs.YtnedllhlmddmoabDoor
