/- The contracts of carry and settle; of no statement by themselves. -/
import Derived.Test.YtejopgopcocapaaEn
import Derived.Test.YtejopgopcocapaaLastP
namespace Go.Proofs.Ytejopgopcocapaa
open Go.RowKit
set_option linter.unusedVariables false

/-- A digit is appended: before, behind the list of one, behind the append. -/
def PushJ (W : World) (B : Nat) (v : Value) (n : Nat) (xs : List Value) (x : Nat) (y z : Value) : Nat → World → Prop
  | 0, w => Chg (fun _ => False) W w
  | 1, w => Chg (fun _ => False) W w ∧ ∃ c, y = .slice (some ⟨c, 0, none⟩) 1 1 ∧ From w (some ⟨c, 0, none⟩) 1 1 1 [.int .u8 (x : Int)]
  | _, w => ∃ w1, Chg (fun _ => False) W w1 ∧ w.ownsRow B 5 1 z (n + 1) (xs ++ [.int .u8 (x : Int)]) ∧ w1.grownBy w v.ownBlock ∧ Moved w1 v z

/-- The low end behind a carry's rounds that are left. -/
def fin (s : List Nat) (x m t : Nat) : Rc.Lo := if m = 0 then ⟨s, x, 0, t⟩ else ⟨s ++ x :: List.replicate (m - 1) 0, 0, 0, t⟩
theorem fin_zero (s : List Nat) (x t : Nat) : fin s x 0 t = ⟨s, x, 0, t⟩ := rfl
theorem fin_succ (s : List Nat) (x m t : Nat) : fin (s ++ [x]) 0 m t = fin s x (m + 1) t := by
  unfold fin
  cases m with
  | zero => simp
  | succ m => simp [List.replicate_succ]
theorem fin_carry (s : List Nat) (d r t : Nat) : fin s (d + 1) r t = Rc.carry s d r t := by
  unfold fin Rc.carry
  rfl
theorem one8 (x : Nat) : ∀ u ∈ [Value.int .u8 (x : Int)], u.oneCell' = true := fun u hu => by simp at hu; subst hu; rfl
theorem foot_step {w w1 w2 : World} {a : Nat} {v v1 v2 : Value} (h : Chg (Foot a v) w w1) (hm : Moved w v v1) (h2 : Chg (Foot a v1) w1 w2) (hm2 : Moved w1 v1 v2) : Chg (Foot a v) w w2 ∧ Moved w v v2 := ⟨h.trans h2 (fun i e => hm.foot a i e), hm.trans h.size hm2⟩

set_option maxHeartbeats 2000000 in
set_option maxRecDepth 100000 in
theorem carry_any (B a : Nat) (v : Value) (s : List Nat) (d r t R : Nat) (w0 : World) (h : En w0 B a v ⟨s, d, r, t⟩ R) (hh : d < 255) (hl : s.length + r ≤ 140737488355328) (hB : B ≤ w0.heap.size) :
    Calls Try.prog 56 #[.pointer (some ⟨a, 0, none⟩)] w0 fun e w' => e = .returned (.tuple #[]) ∧ ∃ v', En w' B a v' (Rc.carry s d r t) R ∧ Chg (Foot a v) w0 w' ∧ Moved w0 v v' := by
  obtain ⟨i0, hi, hz0, hz1, hz2⟩ := info_parts infoU8
  have k1 : w0.cell? ⟨a, 1, none⟩ = some (.int .u8 (d : Int)) := (cells5 h.blk).2.1
  have f1 := (cells5 h.blk).2.2.2.2.2 1
  obtain ⟨hS, hC⟩ := h.setH (d + 1) ((d : Int) + 1) (by omega)
  have HS : Hid (En (w0.setCell ⟨a, 1, none⟩ (.int .u8 ((d : Int) + 1))) B a v ⟨s, d + 1, r, t⟩ R) := hS
  have HC : Hid (Chg (Foot a v) w0 (w0.setCell ⟨a, 1, none⟩ (.int .u8 ((d : Int) + 1)))) := hC.mono (fun _ e => .inl (.inl e))
  clear h hS hC
  go_enter Try.func56, Try.ntmps56
  go_wp2_with fail
  go_loopw [9] (fun _ wr => ∃ (s' : List Nat) (x m : Nat) (v' : Value), x < 256 ∧ s'.length + m = s.length + r ∧ En wr B a v' ⟨s', x, m, t⟩ R ∧ Hid (fin s' x m t = Rc.carry s d r t) ∧ Chg (Foot a v) w0 wr ∧ Moved w0 v v') (fun _ wr => match wr.cell? ⟨a, 2, none⟩ with | some (.int _ q) => q.toNat | _ => 0)
  case atStart => exact ⟨s, d + 1, r, v, by omega, rfl, HS.out, fin_carry s d r t, HC.out, Moved.refl _ _⟩
  case round =>
    clear HS HC k1 f1
    obtain ⟨s', x, m, v', hx, hlen, hE, HF, hC, hM⟩ := hrel
    have hB2 : B ≤ wr.heap.size := Nat.le_trans hB hC.size
    have HX : Hid (Chg (Foot a v) w0 wr ∧ Moved w0 v v') := ⟨hC, hM⟩
    clear hC hM
    cases m with
    | zero =>
      have k2 : wr.cell? ⟨a, 2, none⟩ = some (.int .i64 0) := (cells5 hE.blk).2.2.1
      have HE : Hid (En wr B a v' (Rc.carry s d r t) R) := by
        have h1 := HF.out
        rw [fin_zero] at h1
        show En wr B a v' (Rc.carry s d r t) R
        rw [← h1]
        exact hE
      clear hE HF
      go_wp2
      go_end0
      exact ⟨rfl, v', HE.out, HX.out.1, HX.out.2⟩
    | succ m =>
      obtain ⟨ad, cap, hv, _⟩ := own_any hE.own
      obtain ⟨k0, k1, k2, k3, k4, kf⟩ := cells5 hE.blk
      have hv2 : v' = .slice ad (s').length cap := hv
      have HV : Hid (v' = .slice ad (s').length cap) := hv2
      rw [hv2] at k0
      have hown : wr.ownsRow B 5 1 (.slice ad (s').length cap) (s').length (ins .u8 (nums (s'))) := by rw [← hv2]; exact hE.own
      have HPB : Hid (∀ w1 w2 v2, Chg (fun _ => False) wr w1 → w2.ownsRow B 5 1 v2 ((s').length + 1) (ins .u8 (nums (s')) ++ [.int .u8 ((x : Nat) : Int)]) → w1.grownBy w2 (Value.slice ad (s').length cap).ownBlock → w2.heap[a]? = some (.cells #[.slice ad (s').length cap, .int .u8 ((x : Nat) : Int), .int .i64 ((m + 1 : Nat) : Int), .int .u32 ((t : Nat) : Int), .int .u32 (R : Int)] 96 (0, 0)) ∧ En (w2.setCell ⟨a, 0, none⟩ v2) B a v2 ⟨s' ++ [x], x, m + 1, t⟩ R ∧ Chg (Foot a v') wr (w2.setCell ⟨a, 0, none⟩ v2)) := fun w1 w2 v2 hc ho hg => by
        rw [← hv2] at hg ⊢
        exact hE.pushed hc ho hg
      obtain ⟨z, hz⟩ : ∃ z : Int, z = ((m + 1 : Nat) : Int) := ⟨_, rfl⟩
      have HZ : Hid (z = ((m + 1 : Nat) : Int)) := hz
      have z1 : 0 < z := by omega
      have z2 : z ≤ 140737488355328 := by omega
      have k2' : wr.cell? ⟨a, 2, none⟩ = some (.int .i64 z) := by rw [hz]; exact k2
      have HONE : Hid (∀ u ∈ [Value.int .u8 (x : Int)], u.oneCell' = true) := one8 x
      clear k2 k3 k4 kf hz hv hv2 hE
      obtain ⟨n, hn⟩ : ∃ n, n = s'.length := ⟨_, rfl⟩
      obtain ⟨xs, hxs⟩ : ∃ xs, xs = ins .u8 (nums s') := ⟨_, rfl⟩
      rw [← hn, ← hxs] at hown
      rw [← hn] at k0
      have HN : Hid (n = s'.length) := hn
      have HXS : Hid (xs = ins .u8 (nums s')) := hxs
      have HOWN : Hid (wr.ownsRow B 5 1 (.slice ad n cap) n xs) := hown
      have HLEN : Hid (n + 1 ≤ 140737488355328) := by show n + 1 ≤ _; omega
      have HBB : Hid (B ≤ wr.heap.size) := hB2
      have HPU : Hid (∀ w1 w2 v2, Chg (fun _ => False) wr w1 → w2.ownsRow B 5 1 v2 (n + 1) (xs ++ [.int .u8 (x : Int)]) → w1.grownBy w2 (Value.slice ad n cap).ownBlock → w2.heap[a]? = some (.cells #[.slice ad n cap, .int .u8 (x : Int), .int .i64 z, .int .u32 (t : Int), .int .u32 (R : Int)] 96 (0, 0))) := fun w1 w2 v2 hc ho hg => by
        rw [hn, hxs] at ho
        rw [hn] at hg ⊢
        have hz := HZ.out
        rw [hz]
        exact (HPB.out w1 w2 v2 hc ho hg).1
      have HPW : Hid (∀ w1 w2 v2, Chg (fun _ => False) wr w1 → w2.ownsRow B 5 1 v2 (n + 1) (xs ++ [.int .u8 (x : Int)]) → w1.grownBy w2 (Value.slice ad n cap).ownBlock → Hid (En (w2.setCell ⟨a, 0, none⟩ v2) B a v2 ⟨s' ++ [x], x, m + 1, t⟩ R ∧ Chg (Foot a (.slice ad n cap)) wr (w2.setCell ⟨a, 0, none⟩ v2))) := fun w1 w2 v2 hc ho hg => by
        rw [hn, hxs] at ho
        rw [hn] at hg ⊢
        have h3 := (HPB.out w1 w2 v2 hc ho hg).2
        rw [HV.out] at h3
        exact h3
      have HV2 : Hid (v' = .slice ad n cap) := by show v' = _; rw [hn]; exact HV.out
      clear hown hn hxs HPB HV
      go_wp2_with fail
      refine wp_region_phase (mk := fun u => #[_, _, _, _, _, _, _, _, _, _, _, _, _, _, _, _, _, _, _, _, _, u 21, u 22, u 23, u 24, u 25, u 26, u 27, u 28, u 29, u 30, u 31, u 32, u 33, _, _, _]) (G := lookG [(21, .pointer (some ⟨a, 0, none⟩)), (22, .pointer (some ⟨a, 0, none⟩)), (23, .pointer (some ⟨a, 0, none⟩)), (24, .pointer (some ⟨a, 0, none⟩)), (25, .slice ad n cap), (26, .pointer (some ⟨a, 0, none⟩)), (27, .pointer (some ⟨a, 0, none⟩)), (28, .pointer (some ⟨a, 1, none⟩)), (29, .int .u8 (x : Int)), (32, .pointer (some ⟨a, 0, none⟩)), (33, .pointer (some ⟨a, 0, none⟩))]) (J := fun q u w => w.cell? ⟨a, 0, none⟩ = some (.slice ad n cap) ∧ w.cell? ⟨a, 1, none⟩ = some (.int .u8 (x : Int)) ∧ PushJ wr B (.slice ad n cap) n xs x (u 30) (u 31) q w) [9, 10] (fun slot => match slot with | 21 => u21 | 22 => u22 | 23 => u23 | 24 => u24 | 25 => u25 | 26 => u26 | 27 => u27 | 28 => u28 | 29 => u29 | 30 => u30 | 31 => u31 | 32 => u32 | 33 => u33 | _ => undef) rfl (by kernel_rfl) 13 _ rfl rfl (by kernel_rfl) (by kernel_rfl) (by kernel_rfl) (by decide) ?_ ?_ ?_ ?_ ?_
      · repeat (refine ⟨⟨_, rfl, fun _ _ => rfl⟩, ?_⟩)
        exact trivial
      · intro q u u2 w h hj
        have e1 : u 30 = u2 30 := h 9 (by decide)
        have e2 : u 31 = u2 31 := h 10 (by decide)
        show _ ∧ _ ∧ PushJ wr B (.slice ad n cap) n xs x (u2 30) (u2 31) q w
        rw [← e1, ← e2]
        exact hj
      · exact ⟨cell_chg k0 (Chg.refl _ wr).drew, cell_chg k1 (Chg.refl _ wr).drew, (Chg.refl _ wr).drew⟩
      · refine ⟨?_, ?_, ?_, ?_, ?_, ?_, ?_, ?_, ?_, ?_, ?_, ?_, ?_, trivial⟩
        · show StepR _ _ _ _ _ _  _ -- 21
          unfold StepR
          intro q u w hj hd K hK
          clear hd
          go_simp
          exact hK.out (.pointer (some ⟨a, 0, none⟩)) rfl
        · show StepR _ _ _ _ _ _  _ -- 22
          unfold StepR
          intro q u w hj hd K hK
          clear hd
          go_simp
          exact hK.out (.pointer (some ⟨a, 0, none⟩)) rfl
        · show StepR _ _ _ _ _ _  _ -- 23
          unfold StepR
          intro q u w hj hd K hK
          have h22 : u 22 = .pointer (some ⟨a, 0, none⟩) := hd.get 1 (by kernel_rfl)
          clear hd
          simp only [h22] at hK
          go_simp
          exact hK.out (.pointer (some ⟨a, 0, none⟩)) rfl
        · show StepR _ _ _ _ _ _  _ -- 24
          unfold StepR
          intro q u w hj hd K hK
          have h23 : u 23 = .pointer (some ⟨a, 0, none⟩) := hd.get 2 (by kernel_rfl)
          clear hd
          simp only [h23] at hK
          go_simp
          exact hK.out (.pointer (some ⟨a, 0, none⟩)) rfl
        · show StepR _ _ _ _ _ _  _ -- 25
          unfold StepR
          intro q u w hj hd K hK
          have h24 : u 24 = .pointer (some ⟨a, 0, none⟩) := hd.get 3 (by kernel_rfl)
          clear hd
          simp only [h24] at hK
          have hcell := hj.1
          go_simp
          exact hK.out _ rfl
        · show StepR _ _ _ _ _ _  _ -- 26
          unfold StepR
          intro q u w hj hd K hK
          clear hd
          go_simp
          exact hK.out (.pointer (some ⟨a, 0, none⟩)) rfl
        · show StepR _ _ _ _ _ _  _ -- 27
          unfold StepR
          intro q u w hj hd K hK
          have h26 : u 26 = .pointer (some ⟨a, 0, none⟩) := hd.get 5 (by kernel_rfl)
          clear hd
          simp only [h26] at hK
          go_simp
          exact hK.out (.pointer (some ⟨a, 0, none⟩)) rfl
        · show StepR _ _ _ _ _ _  _ -- 28
          unfold StepR
          intro q u w hj hd K hK
          have h27 : u 27 = .pointer (some ⟨a, 0, none⟩) := hd.get 6 (by kernel_rfl)
          clear hd
          simp only [h27] at hK
          go_simp
          exact hK.out (.pointer (some ⟨a, 1, none⟩)) rfl
        · show StepR _ _ _ _ _ _  _ -- 29
          unfold StepR
          intro q u w hj hd K hK
          have h28 : u 28 = .pointer (some ⟨a, 1, none⟩) := hd.get 7 (by kernel_rfl)
          clear hd
          simp only [h28] at hK
          have hcell := hj.2.1
          go_simp
          exact hK.out _ rfl
        · show StepW _ _ _ _ _ _ 0 _ -- 30
          unfold StepW
          intro u w hj hd K hK
          have h29 : u 29 = .int .u8 (x : Int) := hd.get 8 (by kernel_rfl)
          clear hd
          simp only [h29] at hK
          obtain ⟨j0, j1, hc⟩ := hj
          go_simp
          have c2 := chg_one w (.cells #[.int .u8 (x : Int)] 5)
          exact hK.out _ _ ⟨cell_chg j0 c2, cell_chg j1 c2, chg_then hc c2, _, rfl, from_one8 w (.int .u8 (x : Int)) 5⟩ trivial
        · show StepW _ _ _ _ _ _ 1 _ -- 31
          unfold StepW
          intro u w hj hd K hK
          have h25 : u 25 = .slice ad n cap := hd.get 4 (by kernel_rfl)
          clear hd
          obtain ⟨j0, j1, hc, c, hq, hf⟩ := hj
          refine step_append_moved (a := ⟨_, []⟩) (by rfl) (.tmp 25) (.tmp 30) 22 (by rfl) B 5 i0 (.int .u8 0) 1 1 Try.underlying22 hi hz0 hz1 hz2 rfl (by decide) (.slice ad n cap) n xs (by exact h25) (some ⟨c, 0, none⟩) 1 1 (by exact hq) [.int .u8 (x : Int)] (ownsRow_keep HOWN.out hc (fun _ _ f => f)) hf HONE.out (by have := HLEN.out; unfold maxLen; omega) (by have := HLEN.out; omega) (by have := hc.size; have := HBB.out; omega) ?_
          intro v2 w2 ho hg hm
          have b2 := HPU.out w w2 v2 hc ho hg
          exact hK.out v2 w2 ⟨(cells5 b2).1, (cells5 b2).2.1, w, hc, ho, hg, hm⟩ trivial
        · show StepR _ _ _ _ _ _  _ -- 32
          unfold StepR
          intro q u w hj hd K hK
          have h21 : u 21 = .pointer (some ⟨a, 0, none⟩) := hd.get 0 (by kernel_rfl)
          clear hd
          simp only [h21] at hK
          go_simp
          exact hK.out (.pointer (some ⟨a, 0, none⟩)) rfl
        · show StepR _ _ _ _ _ _  _ -- 33
          unfold StepR
          intro q u w hj hd K hK
          have h32 : u 32 = .pointer (some ⟨a, 0, none⟩) := hd.get 11 (by kernel_rfl)
          clear hd
          simp only [h32] at hK
          go_simp
          exact hK.out (.pointer (some ⟨a, 0, none⟩)) rfl
      · intro u w hj hA K hK
        have e33 : u 33 = .pointer (some ⟨a, 0, none⟩) := hA.at 33 (by kernel_rfl)
        clear hA
        obtain ⟨j0, j1, w1, hc, ho, hg, hm⟩ := hj
        obtain ⟨ad2, cap2, e31, _⟩ := own_any ho
        rw [e31] at ho hm
        have b2 := HPU.out w1 w _ hc ho hg
        have f0 := (cells5 b2).2.2.2.2.2 0
        have HPU2 := HPW.out w1 w _ hc ho hg
        have HM : Hid (Moved wr (.slice ad n cap) (.slice ad2 (n + 1) cap2)) := moved_from hc.size hm
        clear j1 hc ho hg hm b2
        go_simp
        refine hK.out _ _ ?_
        generalize w.setCell ⟨a, 0, none⟩ (.slice ad2 (n + 1) cap2) = w4 at *
        obtain ⟨hE4, hC4⟩ := HPU2.out
        have q1 : w4.cell? ⟨a, 1, none⟩ = some (.int .u8 (x : Int)) := (cells5 hE4.blk).2.1
        have q2 : w4.cell? ⟨a, 2, none⟩ = some (.int .i64 z) := by have hz := HZ.out; rw [hz]; exact (cells5 hE4.blk).2.2.1
        have g1 := (cells5 hE4.blk).2.2.2.2.2 1
        have g2 := (cells5 hE4.blk).2.2.2.2.2 2
        obtain ⟨hE5, hC5⟩ := hE4.setH 0 0 rfl
        obtain ⟨hE6, hC6⟩ := hE5.setN m (z - 1) (by have hz := HZ.out; omega)
        have HE6 : Hid (En ((w4.setCell ⟨a, 1, none⟩ (.int .u8 0)).setCell ⟨a, 2, none⟩ (.int .i64 (z - 1))) B a (.slice ad2 (n + 1) cap2) ⟨s' ++ [x], 0, m, t⟩ R) := hE6
        have HC6 : Hid (Chg (Foot a v) w0 ((w4.setCell ⟨a, 1, none⟩ (.int .u8 0)).setCell ⟨a, 2, none⟩ (.int .i64 (z - 1))) ∧ Moved w0 v (.slice ad2 (n + 1) cap2)) := by
          have hx := HX.out
          rw [HV2.out] at hx
          exact foot_step hx.1 hx.2 ((hC4.trans hC5 (fun _ e => .inl (.inl e))).trans hC6 (fun _ e => .inl (.inl e))) HM.out
        have q6 : ((w4.setCell ⟨a, 1, none⟩ (.int .u8 0)).setCell ⟨a, 2, none⟩ (.int .i64 (z - 1))).cell? ⟨a, 2, none⟩ = some (.int .i64 (z - 1)) := by
          have hz := HZ.out
          rw [show z - 1 = (m : Int) by omega] at hE6 ⊢
          exact (cells5 hE6.blk).2.2.1
        have Q6 : Hid (((w4.setCell ⟨a, 1, none⟩ (.int .u8 0)).setCell ⟨a, 2, none⟩ (.int .i64 (z - 1))).cell? ⟨a, 2, none⟩ = some (.int .i64 (z - 1))) := q6
        clear q6 hE4 hC4 hE5 hC5 hE6 hC6 HPU HPW HPU2 HX HM j0 f0 k0 k1
        go_simp
        go_wp2
        go_roundw
        case rel => exact ⟨s' ++ [x], 0, m, _, by omega, by have := HN.out; simp; omega, HE6.out, by have := HF.out; rw [← fin_succ] at this; exact this, HC6.out.1, HC6.out.2⟩
        case measure =>
          rw [Q6.out, k2']
          show (z - 1).toNat < z.toNat
          omega
set_option maxHeartbeats 2000000 in
set_option maxRecDepth 100000 in
theorem settle_any (B a : Nat) (v : Value) (s : List Nat) (x r t R : Nat) (w0 : World) (h : En w0 B a v ⟨s, x, r, t⟩ R) (hl : s.length + r + 1 ≤ 140737488355328) (hB : B ≤ w0.heap.size) :
    Calls Try.prog 59 #[.pointer (some ⟨a, 0, none⟩)] w0 fun e w' => e = .returned (.tuple #[]) ∧ ∃ v', En w' B a v' ⟨s ++ x :: List.replicate r 255, x, 0, t⟩ R ∧ Chg (Foot a v) w0 w' ∧ Moved w0 v v' := by
  obtain ⟨i0, hi, hz0, hz1, hz2⟩ := info_parts infoU8
  have hE := h
  obtain ⟨ad, cap, hv, _⟩ := own_any hE.own
  obtain ⟨k0, k1, k2, k3, k4, kf⟩ := cells5 hE.blk
  have hv2 : v = .slice ad (s).length cap := hv
  have HV : Hid (v = .slice ad (s).length cap) := hv2
  rw [hv2] at k0
  have hown : w0.ownsRow B 5 1 (.slice ad (s).length cap) (s).length (ins .u8 (nums (s))) := by rw [← hv2]; exact hE.own
  have HPB : Hid (∀ w1 w2 v2, Chg (fun _ => False) w0 w1 → w2.ownsRow B 5 1 v2 ((s).length + 1) (ins .u8 (nums (s)) ++ [.int .u8 ((x : Nat) : Int)]) → w1.grownBy w2 (Value.slice ad (s).length cap).ownBlock → w2.heap[a]? = some (.cells #[.slice ad (s).length cap, .int .u8 ((x : Nat) : Int), .int .i64 ((r : Nat) : Int), .int .u32 ((t : Nat) : Int), .int .u32 (R : Int)] 96 (0, 0)) ∧ En (w2.setCell ⟨a, 0, none⟩ v2) B a v2 ⟨s ++ [x], x, r, t⟩ R ∧ Chg (Foot a v) w0 (w2.setCell ⟨a, 0, none⟩ v2)) := fun w1 w2 v2 hc ho hg => by
    rw [← hv2] at hg ⊢
    exact hE.pushed hc ho hg
  have HONE : Hid (∀ u ∈ [Value.int .u8 (x : Int)], u.oneCell' = true) := one8 x
  clear k2 k3 k4 kf hv hE h
  obtain ⟨n, hn⟩ : ∃ n, n = (s).length := ⟨_, rfl⟩
  obtain ⟨xs, hxs⟩ : ∃ xs, xs = ins .u8 (nums (s)) := ⟨_, rfl⟩
  rw [← hn, ← hxs] at hown
  rw [← hn] at k0
  have HN : Hid (n = (s).length) := hn
  have HXS : Hid (xs = ins .u8 (nums (s))) := hxs
  have HOWN : Hid (w0.ownsRow B 5 1 (.slice ad n cap) n xs) := hown
  have HLEN : Hid (n + 1 ≤ 140737488355328) := by show n + 1 ≤ _; omega
  have HBB : Hid (B ≤ w0.heap.size) := hB
  have HPU : Hid (∀ w1 w2 v2, Chg (fun _ => False) w0 w1 → w2.ownsRow B 5 1 v2 (n + 1) (xs ++ [.int .u8 (x : Int)]) → w1.grownBy w2 (Value.slice ad n cap).ownBlock → w2.heap[a]? = some (.cells #[.slice ad n cap, .int .u8 (x : Int), .int .i64 (r : Int), .int .u32 (t : Int), .int .u32 (R : Int)] 96 (0, 0))) := fun w1 w2 v2 hc ho hg => by
    rw [hn, hxs] at ho
    rw [hn] at hg ⊢
    exact (HPB.out w1 w2 v2 hc ho hg).1
  have HPW : Hid (∀ w1 w2 v2, Chg (fun _ => False) w0 w1 → w2.ownsRow B 5 1 v2 (n + 1) (xs ++ [.int .u8 (x : Int)]) → w1.grownBy w2 (Value.slice ad n cap).ownBlock → Hid (En (w2.setCell ⟨a, 0, none⟩ v2) B a v2 ⟨s ++ [x], x, r, t⟩ R ∧ Chg (Foot a v) w0 (w2.setCell ⟨a, 0, none⟩ v2))) := fun w1 w2 v2 hc ho hg => by
    rw [hn, hxs] at ho
    rw [hn] at hg
    exact (HPB.out w1 w2 v2 hc ho hg).2
  have HV2 : Hid (v = .slice ad n cap) := by show v = _; rw [hn]; exact HV.out
  clear hown hn hxs HPB HV hv2
  go_enter Try.func59, Try.ntmps59
  go_wp2_with fail
  refine wp_region_phase (mk := fun u => #[_, _, u 2, u 3, u 4, u 5, u 6, u 7, u 8, u 9, u 10, u 11, u 12, u 13, u 14, _, _, _, _, _, _, _, _, _, _, _, _, _, _, _, _, _, _, _, _, _]) (G := lookG [(2, .pointer (some ⟨a, 0, none⟩)), (3, .pointer (some ⟨a, 0, none⟩)), (4, .pointer (some ⟨a, 0, none⟩)), (5, .pointer (some ⟨a, 0, none⟩)), (6, .slice ad n cap), (7, .pointer (some ⟨a, 0, none⟩)), (8, .pointer (some ⟨a, 0, none⟩)), (9, .pointer (some ⟨a, 1, none⟩)), (10, .int .u8 (x : Int)), (13, .pointer (some ⟨a, 0, none⟩)), (14, .pointer (some ⟨a, 0, none⟩))]) (J := fun q u w => w.cell? ⟨a, 0, none⟩ = some (.slice ad n cap) ∧ w.cell? ⟨a, 1, none⟩ = some (.int .u8 (x : Int)) ∧ PushJ w0 B (.slice ad n cap) n xs x (u 11) (u 12) q w) [9, 10] (fun _ => undef) rfl (by kernel_rfl) 13 _ rfl rfl (by kernel_rfl) (by kernel_rfl) (by kernel_rfl) (by decide) ?_ ?_ ?_ ?_ ?_
  · repeat (refine ⟨⟨_, rfl, fun _ _ => rfl⟩, ?_⟩)
    exact trivial
  · intro q u u2 w h hj
    have e1 : u 11 = u2 11 := h 9 (by decide)
    have e2 : u 12 = u2 12 := h 10 (by decide)
    show _ ∧ _ ∧ PushJ w0 B (.slice ad n cap) n xs x (u2 11) (u2 12) q w
    rw [← e1, ← e2]
    exact hj
  · exact ⟨cell_chg k0 (Chg.refl _ w0).drew, cell_chg k1 (Chg.refl _ w0).drew, (Chg.refl _ w0).drew⟩
  · refine ⟨?_, ?_, ?_, ?_, ?_, ?_, ?_, ?_, ?_, ?_, ?_, ?_, ?_, trivial⟩
    · show StepR _ _ _ _ _ _  _ -- 2
      unfold StepR
      intro q u w hj hd K hK
      clear hd
      go_simp
      exact hK.out (.pointer (some ⟨a, 0, none⟩)) rfl
    · show StepR _ _ _ _ _ _  _ -- 3
      unfold StepR
      intro q u w hj hd K hK
      clear hd
      go_simp
      exact hK.out (.pointer (some ⟨a, 0, none⟩)) rfl
    · show StepR _ _ _ _ _ _  _ -- 4
      unfold StepR
      intro q u w hj hd K hK
      have h3 : u 3 = .pointer (some ⟨a, 0, none⟩) := hd.get 1 (by kernel_rfl)
      clear hd
      simp only [h3] at hK
      go_simp
      exact hK.out (.pointer (some ⟨a, 0, none⟩)) rfl
    · show StepR _ _ _ _ _ _  _ -- 5
      unfold StepR
      intro q u w hj hd K hK
      have h4 : u 4 = .pointer (some ⟨a, 0, none⟩) := hd.get 2 (by kernel_rfl)
      clear hd
      simp only [h4] at hK
      go_simp
      exact hK.out (.pointer (some ⟨a, 0, none⟩)) rfl
    · show StepR _ _ _ _ _ _  _ -- 6
      unfold StepR
      intro q u w hj hd K hK
      have h5 : u 5 = .pointer (some ⟨a, 0, none⟩) := hd.get 3 (by kernel_rfl)
      clear hd
      simp only [h5] at hK
      have hcell := hj.1
      go_simp
      exact hK.out _ rfl
    · show StepR _ _ _ _ _ _  _ -- 7
      unfold StepR
      intro q u w hj hd K hK
      clear hd
      go_simp
      exact hK.out (.pointer (some ⟨a, 0, none⟩)) rfl
    · show StepR _ _ _ _ _ _  _ -- 8
      unfold StepR
      intro q u w hj hd K hK
      have h7 : u 7 = .pointer (some ⟨a, 0, none⟩) := hd.get 5 (by kernel_rfl)
      clear hd
      simp only [h7] at hK
      go_simp
      exact hK.out (.pointer (some ⟨a, 0, none⟩)) rfl
    · show StepR _ _ _ _ _ _  _ -- 9
      unfold StepR
      intro q u w hj hd K hK
      have h8 : u 8 = .pointer (some ⟨a, 0, none⟩) := hd.get 6 (by kernel_rfl)
      clear hd
      simp only [h8] at hK
      go_simp
      exact hK.out (.pointer (some ⟨a, 1, none⟩)) rfl
    · show StepR _ _ _ _ _ _  _ -- 10
      unfold StepR
      intro q u w hj hd K hK
      have h9 : u 9 = .pointer (some ⟨a, 1, none⟩) := hd.get 7 (by kernel_rfl)
      clear hd
      simp only [h9] at hK
      have hcell := hj.2.1
      go_simp
      exact hK.out _ rfl
    · show StepW _ _ _ _ _ _ 0 _ -- 11
      unfold StepW
      intro u w hj hd K hK
      have h10 : u 10 = .int .u8 (x : Int) := hd.get 8 (by kernel_rfl)
      clear hd
      simp only [h10] at hK
      obtain ⟨j0, j1, hc⟩ := hj
      go_simp
      have c2 := chg_one w (.cells #[.int .u8 (x : Int)] 5)
      exact hK.out _ _ ⟨cell_chg j0 c2, cell_chg j1 c2, chg_then hc c2, _, rfl, from_one8 w (.int .u8 (x : Int)) 5⟩ trivial
    · show StepW _ _ _ _ _ _ 1 _ -- 12
      unfold StepW
      intro u w hj hd K hK
      have h6 : u 6 = .slice ad n cap := hd.get 4 (by kernel_rfl)
      clear hd
      obtain ⟨j0, j1, hc, c, hq, hf⟩ := hj
      refine step_append_moved (a := ⟨_, []⟩) (by rfl) (.tmp 6) (.tmp 11) 22 (by rfl) B 5 i0 (.int .u8 0) 1 1 Try.underlying22 hi hz0 hz1 hz2 rfl (by decide) (.slice ad n cap) n xs (by exact h6) (some ⟨c, 0, none⟩) 1 1 (by exact hq) [.int .u8 (x : Int)] (ownsRow_keep HOWN.out hc (fun _ _ f => f)) hf HONE.out (by have := HLEN.out; unfold maxLen; omega) (by have := HLEN.out; omega) (by have := hc.size; have := HBB.out; omega) ?_
      intro v2 w2 ho hg hm
      have b2 := HPU.out w w2 v2 hc ho hg
      exact hK.out v2 w2 ⟨(cells5 b2).1, (cells5 b2).2.1, w, hc, ho, hg, hm⟩ trivial
    · show StepR _ _ _ _ _ _  _ -- 13
      unfold StepR
      intro q u w hj hd K hK
      have h2 : u 2 = .pointer (some ⟨a, 0, none⟩) := hd.get 0 (by kernel_rfl)
      clear hd
      simp only [h2] at hK
      go_simp
      exact hK.out (.pointer (some ⟨a, 0, none⟩)) rfl
    · show StepR _ _ _ _ _ _  _ -- 14
      unfold StepR
      intro q u w hj hd K hK
      have h13 : u 13 = .pointer (some ⟨a, 0, none⟩) := hd.get 11 (by kernel_rfl)
      clear hd
      simp only [h13] at hK
      go_simp
      exact hK.out (.pointer (some ⟨a, 0, none⟩)) rfl
  · intro u w hj hA K hK
    have e14 : u 14 = .pointer (some ⟨a, 0, none⟩) := hA.at 14 (by kernel_rfl)
    clear hA
    obtain ⟨j0, j1, w1, hc, ho, hg, hm⟩ := hj
    obtain ⟨ad2, cap2, e12, _⟩ := own_any ho
    rw [e12] at ho hm
    have b2 := HPU.out w1 w _ hc ho hg
    have f0 := (cells5 b2).2.2.2.2.2 0
    have HPU2 := HPW.out w1 w _ hc ho hg
    have HM : Hid (Moved w0 (.slice ad n cap) (.slice ad2 (n + 1) cap2)) := moved_from hc.size hm
    clear j1 hc ho hg hm b2
    go_simp
    refine hK.out _ _ ?_
    have HM2 : Hid (Moved w0 v (.slice ad2 (n + 1) cap2)) := by show Moved _ v _; rw [HV2.out]; exact HM.out
    have HL : Hid ((s ++ [x]).length + r = s.length + 1 + r) := by show _ = _; simp
    generalize w.setCell ⟨a, 0, none⟩ (.slice ad2 (n + 1) cap2) = w4 at *
    clear HPU HPW HOWN HM k0 k1 j0 f0 HV2 HXS HONE
    go_simp
    go_wp2_with fail
    go_loopw [15] (fun _ wr => ∃ (s' : List Nat) (m : Nat) (v' : Value), s'.length + m = s.length + 1 + r ∧ En wr B a v' ⟨s', x, m, t⟩ R ∧ Hid (s' ++ List.replicate m 255 = s ++ x :: List.replicate r 255) ∧ Chg (Foot a v) w0 wr ∧ Moved w0 v v') (fun _ wr => match wr.cell? ⟨a, 2, none⟩ with | some (.int _ q) => q.toNat | _ => 0)
    case atStart => exact ⟨s ++ [x], r, _, HL.out, HPU2.out.1, by show _ = _; simp, HPU2.out.2, HM2.out⟩
    case round =>
      clear HPU2 HM2 HL HN
      obtain ⟨s', m, v', hlen, hE, HF, hC, hM⟩ := hrel
      have hB2 : B ≤ wr.heap.size := Nat.le_trans hB hC.size
      have HX : Hid (Chg (Foot a v) w0 wr ∧ Moved w0 v v') := ⟨hC, hM⟩
      clear hC hM
      cases m with
      | zero =>
        have k2 : wr.cell? ⟨a, 2, none⟩ = some (.int .i64 0) := (cells5 hE.blk).2.2.1
        have HE : Hid (En wr B a v' ⟨s ++ x :: List.replicate r 255, x, 0, t⟩ R) := by
          have h1 := HF.out
          rw [List.replicate_zero, List.append_nil] at h1
          show En wr B a v' ⟨s ++ x :: List.replicate r 255, x, 0, t⟩ R
          rw [← h1]
          exact hE
        clear hE HF
        go_wp2
        go_end0
        exact ⟨rfl, v', HE.out, HX.out.1, HX.out.2⟩
      | succ m =>
        clear HLEN
        obtain ⟨ad, cap, hv, _⟩ := own_any hE.own
        obtain ⟨k0, k1, k2, k3, k4, kf⟩ := cells5 hE.blk
        have hv2 : v' = .slice ad s'.length cap := hv
        rw [hv2] at k0 hE HX
        have f0 := kf 0
        have hown : wr.ownsRow B 5 1 (.slice ad s'.length cap) s'.length (ins .u8 (nums s')) := hE.own
        obtain ⟨z, hz⟩ : ∃ z : Int, z = ((m + 1 : Nat) : Int) := ⟨_, rfl⟩
        have HZ : Hid (z = ((m + 1 : Nat) : Int)) := hz
        have z1 : 0 < z := by omega
        have z2 : z ≤ 140737488355328 := by omega
        have k2' : wr.cell? ⟨a, 2, none⟩ = some (.int .i64 z) := by rw [hz]; exact k2
        have c1 := chg_one wr (.cells #[.int .u8 255] 5)
        have o2 := hown.alloc (.cells #[.int .u8 255] 5)
        have hfr := from_one8 wr (.int .u8 255) 5
        have hone : ∀ u ∈ [Value.int .u8 255], u.oneCell' = true := one8 255
        have hsz : B ≤ (wr.alloc (.cells #[.int .u8 255] 5)).heap.size := Nat.le_trans hB2 c1.size
        have HP : Hid (∀ w2 v2, w2.ownsRow B 5 1 v2 (s'.length + 1) (ins .u8 (nums s') ++ [.int .u8 255]) → (wr.alloc (.cells #[.int .u8 255] 5)).grownBy w2 (Value.slice ad s'.length cap).ownBlock → w2.heap[a]? = some (.cells #[.slice ad s'.length cap, .int .u8 (x : Int), .int .i64 z, .int .u32 (t : Int), .int .u32 (R : Int)] 96 (0, 0)) ∧ En (w2.setCell ⟨a, 0, none⟩ v2) B a v2 ⟨s' ++ [255], x, m + 1, t⟩ R ∧ Chg (Foot a (.slice ad s'.length cap)) wr (w2.setCell ⟨a, 0, none⟩ v2)) := fun w2 v2 ho hg => by
          have hz := HZ.out
          rw [hz]
          exact hE.pushed (x := 255) (chg_one wr (.cells #[.int .u8 255] 5)) ho hg
        have HC1 : Hid (wr.heap.size ≤ (wr.alloc (.cells #[.int .u8 255] 5)).heap.size) := c1.size
        clear hE k2 k3 k4 kf hv hv2 hown hz c1 k1
        go_wp2_with (at_builtin; refine wpList_append_moved rfl _ _ 22 rfl B 5 i0 (.int .u8 0) 1 1 Try.underlying22 hi hz0 hz1 hz2 rfl (by decide) _ s'.length (ins .u8 (nums s')) rfl (some ⟨wr.heap.size, 0, none⟩) 1 1 rfl [.int .u8 255] o2 hfr hone (by unfold maxLen; omega) (by omega) hsz ?_)
        intro v2 w2 ho hg hm
        obtain ⟨ad2, cap2, hv2, _⟩ := own_any ho
        subst hv2
        obtain ⟨b2, hE4, hC4⟩ := HP.out _ _ ho hg
        have p0 := (cells5 b2).1
        have p2 := (cells5 b2).2.2.1
        have pf0 := (cells5 b2).2.2.2.2.2 0
        have pf2 := (cells5 b2).2.2.2.2.2 2
        have HM : Hid (Moved wr (.slice ad s'.length cap) (.slice ad2 (s'.length + 1) cap2)) := moved_from HC1.out hm
        obtain ⟨hE6, hC6⟩ := hE4.setN m (z - 1) (by have hz := HZ.out; omega)
        have HE6 : Hid (En ((w2.setCell ⟨a, 0, none⟩ (.slice ad2 (s'.length + 1) cap2)).setCell ⟨a, 2, none⟩ (.int .i64 (z - 1))) B a (.slice ad2 (s'.length + 1) cap2) ⟨s' ++ [255], x, m, t⟩ R) := hE6
        have HC6 : Hid (Chg (Foot a v) w0 ((w2.setCell ⟨a, 0, none⟩ (.slice ad2 (s'.length + 1) cap2)).setCell ⟨a, 2, none⟩ (.int .i64 (z - 1))) ∧ Moved w0 v (.slice ad2 (s'.length + 1) cap2)) :=
          foot_step HX.out.1 HX.out.2 (hC4.trans hC6 (fun _ e => .inl (.inl e))) HM.out
        have Q6 : Hid (((w2.setCell ⟨a, 0, none⟩ (.slice ad2 (s'.length + 1) cap2)).setCell ⟨a, 2, none⟩ (.int .i64 (z - 1))).cell? ⟨a, 2, none⟩ = some (.int .i64 (z - 1))) := by
          have hz := HZ.out
          show _ = _
          rw [show z - 1 = (m : Int) by omega] at hE6 ⊢
          exact (cells5 hE6.blk).2.2.1
        clear hE4 hC4 hE6 hC6 HP HX HM ho hg hm b2 o2 hfr hone hsz
        go_wp2
        go_roundw
        case rel => exact ⟨s' ++ [255], m, _, by simp; omega, HE6.out, by have := HF.out; rw [List.replicate_succ] at this; show _ = _; simpa using this, HC6.out.1, HC6.out.2⟩
        case measure =>
          rw [Q6.out, k2']
          show (z - 1).toNat < z.toNat
          omega
end Go.Proofs.Ytejopgopcocapaa
