/- The contract of the document's Direct; of no statement by itself. -/
import Derived.Test.YthhjllhcgdkjnaaRefB
namespace Go.Proofs.Ythhjllhcgdkjnaa
open Go.RowKit
set_option linter.unusedVariables false

theorem redirect_out (r : Value) (x : Value) (n : Int) (w : World) (hn : n < 0 ∨ 32 < n) : Calls Try.prog 24 #[r, x, .int .i64 n] w fun e w' => e = .returned (.int .i64 7) ∧ w = w' := by
  by_cases h0 : n < 0
  · go_enter Try.func24, Try.ntmps24
    go_wp2
    go_ret
    exact ⟨rfl, rfl⟩
  · have h1 : 32 < n := by omega
    have hd : decide (n < 0) = false := by simp; omega
    go_enter Try.func24, Try.ntmps24
    go_wp2
    go_ret
    exact ⟨rfl, rfl⟩

theorem bit_nat (x j : Nat) : ((x : Int) / 2 ^ j).tmod 2 = ((x / 2 ^ j % 2 : Nat) : Int) := by
  have e : ((x : Int) / 2 ^ j) = ((x / 2 ^ j : Nat) : Int) := by simp
  rw [e]
  generalize x / 2 ^ j = q
  rw [Int.tmod_eq_emod_of_nonneg (Int.natCast_nonneg _)]
  omega

/-- The lowest m bits of x, the highest first. -/
def direct (x : Nat) : Nat → Rc.E → Rc.E
  | 0, e => e
  | m + 1, e => direct x m (Rc.half e (decide (x / 2 ^ m % 2 = 1)))

set_option maxHeartbeats 2000000 in
set_option maxRecDepth 100000 in
theorem redirect_in (B r : Nat) (v : Value) (e : Rc.E) (x n : Nat) (w0 : World) (h : Re w0 B r v (Rc.by_ e) e.R e.k) (hO : Rc.Ok e) (hx : x ≤ 4294967295) (hn : n ≤ 32) (hk : e.k + 32 ≤ 70368744177664) (hB : B ≤ w0.heap.size) :
    Calls Try.prog 24 #[.pointer (some ⟨r, 0, none⟩), .int .u32 (x : Int), .int .i64 (n : Int)] w0 fun y w' => y = .returned (.int .i64 0) ∧ ∃ v', Re w' B r v' (Rc.by_ (direct x n e)) (direct x n e).R (direct x n e).k ∧ Chg (Foot r v) w0 w' ∧ Moved w0 v v' := by
  have hd : decide ((n : Int) < 0) = false := by simp
  have hd32 : decide ((32 : Int) < (n : Int)) = false := by simp; omega
  have HH : Hid (Re w0 B r v (Rc.by_ e) e.R e.k) := h
  clear h
  go_enter Try.func24, Try.ntmps24
  go_wp2_with fail
  go_loopw [7] (fun iv wr => ∃ (m : Nat) (f : Rc.E) (v' : Value), m ≤ n ∧ iv = .int .i64 ((m : Int) - 1) ∧ Re wr B r v' (Rc.by_ f) f.R f.k ∧ Rc.Ok f ∧ f.k + m ≤ e.k + n ∧ Hid (direct x m f = direct x n e) ∧ Chg (Foot r v) w0 wr ∧ Moved w0 v v') (fun iv _ => (intOf iv + 1).toNat)
  case atStart => exact ⟨n, e, v, Nat.le_refl _, rfl, HH.out, hO, Nat.le_refl _, rfl, Chg.refl _ _, Moved.refl _ _⟩
  case round =>
    clear HH
    obtain ⟨m, f, v', hm, rfl, hR, hOf, hkf, HD, hC, hM⟩ := hrel
    cases m with
    | zero =>
      have e1 : f = direct x n e := HD.out
      rw [e1] at hR
      have HR : Hid (Re wr B r v' (Rc.by_ (direct x n e)) (direct x n e).R (direct x n e).k) := hR
      clear hR e1 HD hOf hkf
      go_wp2
      go_ret
      exact ⟨rfl, v', HR.out, hC, hM⟩
    | succ j =>
      have k1 := (cells3 hR.blk).2.1
      have f1 := (cells3 hR.blk).2.2.2 1
      have hlo := hOf.lo
      have hhi := hOf.hi
      have HR : Hid (Re wr B r v' (Rc.by_ f) f.R f.k) := hR
      have HC : Hid (Chg (Foot r v) w0 wr) := hC
      have HM : Hid (Moved w0 v v') := hM
      have hs := hC.size
      clear hR hC hM
      have hT : ((x : Int) / 2 ^ j).tmod 2 = ((x / 2 ^ j % 2 : Nat) : Int) := bit_nat x j
      have hj31 : j < 32 := by omega
      by_cases hb : x / 2 ^ j % 2 = 1
      · have hT1 : ((x : Int) / 2 ^ j).tmod 2 = 1 := by rw [hT, hb]; rfl
        have HD2 : Hid (direct x j (Rc.half f true) = direct x n e) := by
          have h1 : direct x j (Rc.half f (decide (x / 2 ^ j % 2 = 1))) = direct x n e := HD.out
          rw [show decide (x / 2 ^ j % 2 = 1) = true from decide_eq_true hb] at h1
          exact h1
        obtain ⟨hS, hCs⟩ := HR.out.setR (Q := f.R / 2) ((f.R : Int) / 2) (by omega)
        have HS : Hid (Re (wr.setCell ⟨r, 1, none⟩ (.int .u32 ((f.R : Int) / 2))) B r v' (Rc.by_ f) (f.R / 2) f.k) := hS
        have q1 := (cells3 hS.blk).2.1
        have HCs : Hid (Chg (fun z => z = r) wr (wr.setCell ⟨r, 1, none⟩ (.int .u32 ((f.R : Int) / 2)))) := hCs
        have HA : Hid (∀ w2, w2 = wr.setCell ⟨r, 1, none⟩ (.int .u32 ((f.R : Int) / 2)) → Calls Try.prog 47 #[.pointer (some ⟨r, 0, none⟩), .int .u32 ((f.R : Int) / 2)] w2 fun y w' => y = .returned (.tuple #[]) ∧ Re w' B r v' (Rc.dg (f.k + 5) (f.L + f.R / 2)) (f.R / 2) f.k ∧ Chg (fun z => v'.ownBlock = some z) w2 w') := fun w2 e2 => by
          subst e2
          have hlen : (Rc.by_ f).length = f.k + 5 := Rc.dg_len _ _
          have hval : Rc.val (Rc.by_ f) = f.L := Rc.val_dg _ _ hOf.lt
          have hfit : f.R / 2 + Rc.val (Rc.by_ f) < 256 ^ (Rc.by_ f).length := by
            rw [hval, hlen]
            have h3 := hOf.sum
            have e1 : 256 ^ (f.k + 5) = 256 ^ f.k * 1099511627776 := by rw [Nat.pow_add]
            have pos : 0 < 256 ^ f.k := Nat.pow_pos (by omega)
            omega
          have := adds_any B r v' (Rc.by_ f) (f.R / 2) f.k (f.R / 2) _ HS.out (by omega) (by rw [hlen]; omega) (by rw [hlen]; omega) hfit
          rw [hlen, hval] at this
          exact this
        clear hS hCs hb hT HD
        go_wp2_with fail
        refine (HA.out _ rfl).mono ?_
        rintro y w3 ⟨rfl, h3, c3⟩
        have H3 : Hid (Re w3 B r v' (Rc.dg (f.k + 5) (f.L + f.R / 2)) (f.R / 2) f.k) := h3
        have hs3 : wr.heap.size ≤ w3.heap.size := by have := c3.size; rw [set_size] at this; exact this
        have HC3 : Hid (Chg (Foot r v') wr w3) := (HCs.out.mono (T := Foot r v') (fun _ e => .inl (.inl e))).trans c3 (fun _ e => .inl (.inr e))
        clear h3 c3 HA HS HCs q1 k1 f1 hT1
        go_wp2_with fail
        refine (widens_any B r v' ⟨f.L + f.R / 2, f.R / 2, f.k⟩ _ H3.out (by show _ ≤ f.R / 2; omega) (by show f.R / 2 ≤ _; omega) (by show f.k ≤ _; omega) (by omega)).mono ?_
        rintro y w4 ⟨rfl, v4, h4, c4, m4⟩
        have H4 : Hid (Re w4 B r v4 (Rc.by_ (Rc.half f true)) (Rc.half f true).R (Rc.half f true).k) := h4
        have HM4 : Hid (Moved w0 v v4) := fun g e => by
          rcases m4 g e with e | e
          · exact HM.out g e
          · exact .inr (by omega)
        have HC4 : Hid (Chg (Foot r v) w0 w4) := HC.out.trans (HC3.out.trans c4 (fun _ e => .inl e)) (fun i e => HM.out.foot r i e)
        have hk2 := Rc.half_k f true
        clear h4 c4 m4 H3 HC3 HC HM
        go_wp2
        go_roundw
        case rel => exact ⟨j, Rc.half f true, v4, by omega, by go_num, H4.out, Rc.half_ok hOf true, by split at hk2 <;> omega, HD2.out, HC4.out, HM4.out⟩
        case measure => simp [intOf]
      · have hb0 : x / 2 ^ j % 2 = 0 := by omega
        have hT1 : ((x : Int) / 2 ^ j).tmod 2 = 0 := by rw [hT, hb0]; rfl
        have HD2 : Hid (direct x j (Rc.half f false) = direct x n e) := by
          have h1 : direct x j (Rc.half f (decide (x / 2 ^ j % 2 = 1))) = direct x n e := HD.out
          rw [show decide (x / 2 ^ j % 2 = 1) = false from decide_eq_false hb] at h1
          exact h1
        obtain ⟨hS, hCs⟩ := HR.out.setR (Q := f.R / 2) ((f.R : Int) / 2) (by omega)
        have HS : Hid (Re (wr.setCell ⟨r, 1, none⟩ (.int .u32 ((f.R : Int) / 2))) B r v' (Rc.dg (f.k + 5) f.L) (f.R / 2) f.k) := hS
        have HCs : Hid (Chg (fun z => z = r) wr (wr.setCell ⟨r, 1, none⟩ (.int .u32 ((f.R : Int) / 2)))) := hCs
        clear hS hCs hb hb0 hT HD
        go_wp2_with fail
        refine (widens_any B r v' ⟨f.L, f.R / 2, f.k⟩ _ HS.out (by show _ ≤ f.R / 2; omega) (by show f.R / 2 ≤ _; omega) (by show f.k ≤ _; omega) (by rw [set_size]; omega)).mono ?_
        rintro y w4 ⟨rfl, v4, h4, c4, m4⟩
        have H4 : Hid (Re w4 B r v4 (Rc.by_ (Rc.half f false)) (Rc.half f false).R (Rc.half f false).k) := h4
        have HM4 : Hid (Moved w0 v v4) := fun g e => by
          rcases m4 g e with e | e
          · exact HM.out g e
          · rw [set_size] at e; exact .inr (by omega)
        have HC4 : Hid (Chg (Foot r v) w0 w4) := HC.out.trans ((HCs.out.mono (T := Foot r v') (fun _ e => .inl (.inl e))).trans c4 (fun _ e => .inl e)) (fun i e => HM.out.foot r i e)
        have hk2 := Rc.half_k f false
        clear h4 c4 m4 HS HCs HC HM k1 f1 hT1
        go_wp2
        go_roundw
        case rel => exact ⟨j, Rc.half f false, v4, by omega, by go_num, H4.out, Rc.half_ok hOf false, by split at hk2 <;> omega, HD2.out, HC4.out, HM4.out⟩
        case measure => simp [intOf]
end Go.Proofs.Ythhjllhcgdkjnaa
