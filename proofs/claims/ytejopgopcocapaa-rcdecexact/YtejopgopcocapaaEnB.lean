/- The contracts of shift, add and widen; of no statement by themselves. -/
import Derived.Test.YtejopgopcocapaaEnA
namespace Go.Proofs.Ytejopgopcocapaa
open Go.RowKit
set_option linter.unusedVariables false

set_option maxHeartbeats 2000000 in
set_option maxRecDepth 100000 in
theorem shift_any (B a : Nat) (v : Value) (s : List Nat) (d r t R : Nat) (w0 : World) (h : En w0 B a v ⟨s, d, r, t⟩ R) (ht : t < 4294967296) (hl : s.length + r + 1 ≤ 140737488355328) (hB : B ≤ w0.heap.size) :
    Calls Try.prog 57 #[.pointer (some ⟨a, 0, none⟩)] w0 fun e w' => e = .returned (.tuple #[]) ∧ ∃ v', En w' B a v' (Rc.shift ⟨s, d, r, t⟩) R ∧ Chg (Foot a v) w0 w' ∧ Moved w0 v v' := by
  have k3 : w0.cell? ⟨a, 3, none⟩ = some (.int .u32 (t : Int)) := (cells5 h.blk).2.2.2.1
  have k2 : w0.cell? ⟨a, 2, none⟩ = some (.int .i64 (r : Int)) := (cells5 h.blk).2.2.1
  have f3 := (cells5 h.blk).2.2.2.2.2 3
  have f2 := (cells5 h.blk).2.2.2.2.2 2
  obtain ⟨hS, hC⟩ := h.setT (t * 256 % 4294967296) ((t : Int) * 256 % 4294967296) (by omega)
  by_cases hT : t / 16777216 = 255
  · have hz : (t : Int) / 16777216 = 255 := by omega
    obtain ⟨hS2, hC2⟩ := hS.setN (r + 1) ((r : Int) + 1) (by omega)
    have HS : Hid (En ((w0.setCell ⟨a, 3, none⟩ (.int .u32 ((t : Int) * 256 % 4294967296))).setCell ⟨a, 2, none⟩ (.int .i64 ((r : Int) + 1))) B a v (Rc.shift ⟨s, d, r, t⟩) R) := by
      show En _ _ _ _ _ _
      unfold Rc.shift
      rw [if_pos hT]
      exact hS2
    have HC : Hid (Chg (Foot a v) w0 ((w0.setCell ⟨a, 3, none⟩ (.int .u32 ((t : Int) * 256 % 4294967296))).setCell ⟨a, 2, none⟩ (.int .i64 ((r : Int) + 1)))) := (hC.trans hC2 (fun _ e => .inl e)).mono (fun _ e => .inl (.inl e))
    clear h hS hC hS2 hC2
    go_enter Try.func57, Try.ntmps57
    go_wp2
    (try simp only [Exit.inBlock, Exit.then])
    refine bodyPost_ret (results_none rfl _ _ _) rfl ?_
    exact ⟨rfl, v, HS.out, HC.out, Moved.refl _ _⟩
  · have hz : decide ((t : Int) / 16777216 = 255) = false := by simp; omega
    have hz2 : ((t : Int) / 16777216 == 255) = false := by simp; omega
    have HS : Hid (En (w0.setCell ⟨a, 3, none⟩ (.int .u32 ((t : Int) * 256 % 4294967296))) B a v ⟨s, d, r, t * 256 % 4294967296⟩ R) := hS
    have HC : Hid (Chg (Foot a v) w0 (w0.setCell ⟨a, 3, none⟩ (.int .u32 ((t : Int) * 256 % 4294967296)))) := hC.mono (fun _ e => .inl (.inl e))
    have HT : Hid (¬ t / 16777216 = 255) := hT
    clear h hS hC hT k2 f2
    go_enter Try.func57, Try.ntmps57
    go_wp2_with fail
    refine (settle_any B a v s d r (t * 256 % 4294967296) R _ HS.out hl (by rw [set_size]; exact hB)).mono ?_
    rintro e w2 ⟨rfl, v2, h2, c2, m2⟩
    have g1 := (cells5 h2.blk).2.2.2.2.2 1
    have p1 := (cells5 h2.blk).2.1
    obtain ⟨hS3, hC3⟩ := h2.setH (t / 16777216) ((t : Int) / 16777216) (by omega)
    have HS3 : Hid (En (w2.setCell ⟨a, 1, none⟩ (.int .u8 ((t : Int) / 16777216))) B a v2 (Rc.shift ⟨s, d, r, t⟩) R) := by
      show En _ _ _ _ _ _
      unfold Rc.shift
      rw [if_neg HT.out]
      exact hS3
    have HC3 : Hid (Chg (Foot a v) w0 (w2.setCell ⟨a, 1, none⟩ (.int .u8 ((t : Int) / 16777216)))) := (HC.out.trans c2 (fun _ e => .inl e)).trans hC3 (fun _ e => .inl (.inl e))
    have HM3 : Hid (Moved w0 v v2) := fun g e => by
      rcases m2 g e with e | e
      · exact .inl e
      · rw [set_size] at e; exact .inr e
    clear h2 c2 m2 hS3 hC3 HS HC
    go_wp2
    go_end0
    exact ⟨rfl, v2, HS3.out, HC3.out, HM3.out⟩

set_option maxHeartbeats 2000000 in
set_option maxRecDepth 100000 in
theorem add_any (B a : Nat) (v : Value) (s : List Nat) (d r t R x : Nat) (w0 : World) (h : En w0 B a v ⟨s, d, r, t⟩ R) (ht : t < 4294967296) (hx : x < 4294967296) (hd : 4294967296 ≤ t + x → d < 255) (hl : s.length + r ≤ 140737488355328) (hB : B ≤ w0.heap.size) :
    Calls Try.prog 48 #[.pointer (some ⟨a, 0, none⟩), .int .u32 (x : Int)] w0 fun e w' => e = .returned (.tuple #[]) ∧ ∃ v', En w' B a v' (Rc.add ⟨s, d, r, t⟩ x) R ∧ Chg (Foot a v) w0 w' ∧ Moved w0 v v' := by
  have k3 : w0.cell? ⟨a, 3, none⟩ = some (.int .u32 (t : Int)) := (cells5 h.blk).2.2.2.1
  have f3 := (cells5 h.blk).2.2.2.2.2 3
  by_cases hT : t + x < 4294967296
  · obtain ⟨hS, hC⟩ := h.setT (t + x) ((t : Int) + (x : Int)) (by omega)
    have HS : Hid (En (w0.setCell ⟨a, 3, none⟩ (.int .u32 ((t : Int) + (x : Int)))) B a v (Rc.add ⟨s, d, r, t⟩ x) R) := by
      show En _ _ _ _ _ _
      unfold Rc.add
      rw [if_pos hT]
      exact hS
    have HC : Hid (Chg (Foot a v) w0 (w0.setCell ⟨a, 3, none⟩ (.int .u32 ((t : Int) + (x : Int))))) := hC.mono (fun _ e => .inl (.inl e))
    have hlt : decide ((t : Int) + (x : Int) < (x : Int)) = false := by simp; omega
    have hz : ((t : Int) + (x : Int)) % 4294967296 = (t : Int) + (x : Int) := by omega
    clear h hS hC hd
    go_enter Try.func48, Try.ntmps48
    go_wp2
    go_end0
    exact ⟨rfl, v, HS.out, HC.out, Moved.refl _ _⟩
  · have hd2 := hd (by omega)
    obtain ⟨y, hy⟩ : ∃ y : Int, y = ((t + x - 4294967296 : Nat) : Int) := ⟨_, rfl⟩
    have hw : IntKind.u32.wrap ((t : Int) + (x : Int)) = y := by simp [IntKind.wrap, IntKind.signed, IntKind.bits]; omega
    have hz : ((t : Int) + (x : Int)) % 4294967296 = y := by omega
    have hylt : y < (x : Int) := by omega
    obtain ⟨hS, hC⟩ := h.setT (t + x - 4294967296) y hy
    have HS : Hid (En (w0.setCell ⟨a, 3, none⟩ (.int .u32 y)) B a v ⟨s, d, r, t + x - 4294967296⟩ R) := hS
    have HC : Hid (Chg (Foot a v) w0 (w0.setCell ⟨a, 3, none⟩ (.int .u32 y))) := hC.mono (fun _ e => .inl (.inl e))
    have HT : Hid (¬ t + x < 4294967296) := hT
    have q3 : (w0.setCell ⟨a, 3, none⟩ (.int .u32 y)).cell? ⟨a, 3, none⟩ = some (.int .u32 y) := by rw [hy] at hS ⊢; exact (cells5 hS.blk).2.2.2.1
    clear h hS hC hd hy hT
    go_enter Try.func48, Try.ntmps48
    go_wp2_with fail
    refine (carry_any B a v s d r (t + x - 4294967296) R _ HS.out hd2 hl (by rw [set_size]; exact hB)).mono ?_
    rintro e w2 ⟨rfl, v2, h2, c2, m2⟩
    have HS3 : Hid (En w2 B a v2 (Rc.add ⟨s, d, r, t⟩ x) R) := by
      show En _ _ _ _ _ _
      unfold Rc.add
      rw [if_neg HT.out]
      exact h2
    have HC3 : Hid (Chg (Foot a v) w0 w2) := HC.out.trans c2 (fun _ e => .inl e)
    have HM3 : Hid (Moved w0 v v2) := fun g e => by
      rcases m2 g e with e | e
      · exact .inl e
      · rw [set_size] at e; exact .inr e
    clear h2 c2 m2 HS HC
    go_wp2
    go_end0
    exact ⟨rfl, v2, HS3.out, HC3.out, HM3.out⟩

/-- The program's encoder as the one over natural numbers. -/
def Enc (w : World) (B a : Nat) (v : Value) (e : Rc.E) : Prop := ∃ l, En w B a v l e.R ∧ Rc.Is l e

set_option maxHeartbeats 1000000 in
set_option maxRecDepth 100000 in
theorem widen_no (B a : Nat) (v : Value) (l : Rc.Lo) (R : Nat) (w : World) (h : En w B a v l R) (hR : 16777216 ≤ R) (hR2 : R ≤ 4294967295) : Calls Try.prog 49 #[.pointer (some ⟨a, 0, none⟩)] w fun e w' => e = .returned (.tuple #[]) ∧ w = w' := by
  have c1 := (cells5 h.blk).2.2.2.2.1
  clear h
  obtain ⟨z, hz⟩ : ∃ z : Int, z = (R : Int) := ⟨_, rfl⟩
  have h1 : 16777216 ≤ z := by omega
  have h2 : z ≤ 4294967295 := by omega
  rw [← hz] at c1
  clear hz hR hR2
  have hd : decide (z < 16777216) = false := by simp; omega
  go_enter Try.func49, Try.ntmps49
  go_wp2_with fail
  refine wp_loop_rounds 1 ?_
  rw [rounds_succ]
  go_wp2
  go_end0
  exact ⟨rfl, rfl⟩

set_option maxHeartbeats 2000000 in
set_option maxRecDepth 100000 in
theorem widen_yes (B a : Nat) (v : Value) (s : List Nat) (d r t R : Nat) (w0 : World) (h : En w0 B a v ⟨s, d, r, t⟩ R) (ht : t < 4294967296) (hR1 : 65536 ≤ R) (hR2 : R < 16777216) (hl : s.length + r + 1 ≤ 140737488355328) (hB : B ≤ w0.heap.size) :
    Calls Try.prog 49 #[.pointer (some ⟨a, 0, none⟩)] w0 fun e w' => e = .returned (.tuple #[]) ∧ ∃ v', En w' B a v' (Rc.shift ⟨s, d, r, t⟩) (256 * R) ∧ Chg (Foot a v) w0 w' ∧ Moved w0 v v' := by
  have k4 := (cells5 h.blk).2.2.2.2.1
  have HH : Hid (En w0 B a v ⟨s, d, r, t⟩ R) := h
  obtain ⟨z, hz⟩ : ∃ z : Int, z = (R : Int) := ⟨_, rfl⟩
  have HZ : Hid (z = (R : Int)) := hz
  have z1 : 65536 ≤ z := by omega
  have z2 : z < 16777216 := by omega
  rw [← hz] at k4
  clear hz hR1 hR2 h
  go_enter Try.func49, Try.ntmps49
  go_wp2_with fail
  go_loopw [2] (fun _ wr => wr = w0 ∨ ∃ v', En wr B a v' (Rc.shift ⟨s, d, r, t⟩) (256 * R) ∧ Chg (Foot a v) w0 wr ∧ Moved w0 v v') (fun _ wr => match wr.cell? ⟨a, 4, none⟩ with | some (.int _ q) => (16777216 - q).toNat | _ => 0)
  case atStart => exact .inl rfl
  case round =>
    rcases hrel with rfl | ⟨v', hR, hC, hM⟩
    · go_wp2_with fail
      refine (shift_any B a v s d r t R _ HH.out ht hl hB).mono ?_
      rintro e w2 ⟨rfl, v2, h2, c2, m2⟩
      have q4 : w2.cell? ⟨a, 4, none⟩ = some (.int .u32 z) := by have hz := HZ.out; rw [hz]; exact (cells5 h2.blk).2.2.2.2.1
      have g4 := (cells5 h2.blk).2.2.2.2.2 4
      obtain ⟨hS3, hC3⟩ := h2.setR (256 * R) (z * 256) (by have hz := HZ.out; omega)
      have hzm : z * 256 % 4294967296 = z * 256 := by omega
      have HS3 : Hid (En (w2.setCell ⟨a, 4, none⟩ (.int .u32 (z * 256))) B a v2 (Rc.shift ⟨s, d, r, t⟩) (256 * R)) := hS3
      have HC3 : Hid (Chg (Foot a v) wr (w2.setCell ⟨a, 4, none⟩ (.int .u32 (z * 256)))) := c2.trans hC3 (fun _ e => .inl (.inl e))
      have HM3 : Hid (Moved wr v v2) := m2
      have Q4 : Hid ((w2.setCell ⟨a, 4, none⟩ (.int .u32 (z * 256))).cell? ⟨a, 4, none⟩ = some (.int .u32 (z * 256))) := by
        have h3 := (cells5 hS3.blk).2.2.2.2.1
        have hz := HZ.out
        rw [show ((256 * R : Nat) : Int) = z * 256 by omega] at h3
        exact h3
      clear h2 c2 m2 hS3 hC3 HH
      go_wp2
      go_roundw
      case rel => exact .inr ⟨v2, HS3.out, HC3.out, HM3.out⟩
      case measure =>
        rw [Q4.out, k4]
        show (16777216 - z * 256).toNat < (16777216 - z).toNat
        omega
    · have q4 : wr.cell? ⟨a, 4, none⟩ = some (.int .u32 (z * 256)) := by
        have h3 := (cells5 hR.blk).2.2.2.2.1
        have hz := HZ.out
        rw [show ((256 * R : Nat) : Int) = z * 256 by omega] at h3
        exact h3
      have hd : decide (z * 256 < 16777216) = false := by simp; omega
      clear k4 HH
      go_wp2
      go_end0
      exact ⟨rfl, v', hR, hC, hM⟩

/-- Behind widening. -/
theorem widen_any (B a : Nat) (v : Value) (f : Rc.E) (w : World) (h : Enc w B a v f) (h1 : 65536 ≤ f.R) (h2 : f.R ≤ 4294967295) (hk : f.k + 1 ≤ 140737488355328) (hB : B ≤ w.heap.size) :
    Calls Try.prog 49 #[.pointer (some ⟨a, 0, none⟩)] w fun e w' => e = .returned (.tuple #[]) ∧ ∃ v', Enc w' B a v' (Rc.widen f) ∧ Chg (Foot a v) w w' ∧ Moved w v v' := by
  obtain ⟨l, hE, hI⟩ := h
  by_cases hR : f.R < 16777216
  · have e : Rc.widen f = ⟨256 * f.L, 256 * f.R, f.k + 1⟩ := by unfold Rc.widen; rw [if_pos hR]
    rw [e]
    refine (widen_yes B a v l.s l.h l.r l.t f.R w hE hI.ht h1 hR (by have := hI.len; omega) hB).mono ?_
    rintro x w' ⟨he, v', hE', hC, hM⟩
    exact ⟨he, v', ⟨_, hE', Rc.shift_is hI hR⟩, hC, hM⟩
  · have e : Rc.widen f = f := by unfold Rc.widen; rw [if_neg hR]
    rw [e]
    exact (widen_no B a v l f.R w hE (by omega) h2).mono fun x w' ⟨he, hw⟩ => ⟨he, v, by rw [← hw]; exact ⟨l, hE, hI⟩, by rw [← hw]; exact Chg.refl _ _, Moved.refl _ _⟩
/-- Behind adding. -/
theorem adde_any (B a : Nat) (v : Value) (f : Rc.E) (b Q S : Nat) (w : World) (l : Rc.Lo) (hE : En w B a v l S) (hI : Rc.Is l f) (hb : b < 4294967296) (hQ : b + Q ≤ f.R) (h0 : 0 < Q) (h2 : f.R ≤ 4294967295) (hk : f.k + 1 ≤ 140737488355328) (hB : B ≤ w.heap.size) :
    Calls Try.prog 48 #[.pointer (some ⟨a, 0, none⟩), .int .u32 (b : Int)] w fun e w' => e = .returned (.tuple #[]) ∧ ∃ v' l', En w' B a v' l' S ∧ Rc.Is l' ⟨f.L + b, Q, f.k⟩ ∧ Chg (Foot a v) w w' ∧ Moved w v v' := by
  refine (add_any B a v l.s l.h l.r l.t S b w hE hI.ht hb (fun hc => ?_) (by have := hI.len; omega) hB).mono ?_
  · obtain ⟨P, A, B', M, hP, hM, hA, hB', hv, hf⟩ := hI.parts
    rcases Nat.lt_or_ge l.h 255 with c | c
    · exact c
    · exfalso
      have h1 : 255 * P ≤ l.h * P := Nat.mul_le_mul_right _ c
      clear hP hA
      omega
  · rintro x w' ⟨he, v', hE', hC, hM⟩
    exact ⟨he, v', _, hE', Rc.add_is hI hb hQ h0 (by omega), hC, hM⟩
end Go.Proofs.Ytejopgopcocapaa
