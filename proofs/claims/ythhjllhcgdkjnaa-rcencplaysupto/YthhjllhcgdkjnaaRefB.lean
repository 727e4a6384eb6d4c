/- The contracts of the document's cut, Bit, Direct, Fork, by the encoder over natural numbers; of no statement by themselves. -/
import Derived.Test.YthhjllhcgdkjnaaRefA
namespace Go.Proofs.Ythhjllhcgdkjnaa
open Go.RowKit
set_option linter.unusedVariables false

theorem Re.lt {w : World} {B r R k : Nat} {v : Value} {ds : List Nat} (h : Re w B r v ds R k) : r < w.heap.size := lt_of_blk h.blk
theorem Re.ne {w : World} {B r R k : Nat} {v : Value} {ds : List Nat} (h : Re w B r v ds R k) : v.ownBlock ≠ some r := fun e => by
  obtain ⟨cur, hcur⟩ := owns_blk h.own e
  exact ty_ne h.blk hcur (by decide)
/-- The range is written. -/
theorem Re.setR {w : World} {B r R k Q : Nat} {v : Value} {ds : List Nat} (h : Re w B r v ds R k) (q : Int) (hq : q = (Q : Int)) : Re (w.setCell ⟨r, 1, none⟩ (.int .u32 q)) B r v ds Q k ∧ Chg (fun z => z = r) w (w.setCell ⟨r, 1, none⟩ (.int .u32 q)) := by
  have c1 : Chg (fun z => z = r) w (w.setCell ⟨r, 1, none⟩ (.int .u32 q)) := (Chg.refl (fun z => z = r) w).setCell (p := ⟨r, 1, none⟩) (.inl rfl) _
  subst hq
  exact ⟨⟨h.hr, blk_setk (l := [v, .int .u32 (R : Int), .int .i64 (k : Int)]) h.blk 1 _, ownsRow_keep h.own c1 (fun g e e2 => h.ne (by rw [← e2]; exact e)), h.dig⟩, c1⟩

/-- Behind widening. -/
theorem widens_any (B r : Nat) (v : Value) (f : Rc.E) (w : World) (h : Re w B r v (Rc.dg (f.k + 5) f.L) f.R f.k) (h1 : 65536 ≤ f.R) (h2 : f.R ≤ 4294967295) (hk : f.k ≤ 70368744177664) (hB : B ≤ w.heap.size) :
    Calls Try.prog 48 #[.pointer (some ⟨r, 0, none⟩)] w fun e w' => e = .returned (.tuple #[]) ∧ ∃ v', Re w' B r v' (Rc.by_ (Rc.widen f)) (Rc.widen f).R (Rc.widen f).k ∧ Chg (Foot r v) w w' ∧ Moved w v v' := by
  by_cases hR : f.R < 16777216
  · have e : Rc.widen f = ⟨256 * f.L, 256 * f.R, f.k + 1⟩ := by unfold Rc.widen; rw [if_pos hR]
    have hb : Rc.by_ ⟨256 * f.L, 256 * f.R, f.k + 1⟩ = Rc.dg (f.k + 5) f.L ++ [0] := Rc.dg_shift (f.k + 5) f.L
    rw [e, hb]
    exact widens_yes B r v _ f.R f.k w h h1 hR (by omega) (by rw [Rc.dg_len]; omega) hB
  · have e : Rc.widen f = f := by unfold Rc.widen; rw [if_neg hR]
    rw [e]
    exact (widens_no B r v _ f.R f.k w h (by omega) h2).mono fun x w' ⟨he, hw⟩ => ⟨he, v, by rw [← hw]; exact h, by rw [← hw]; exact Chg.refl _ _, Moved.refl _ _⟩

theorem foot_then {w w1 w2 : World} {r : Nat} {v v1 : Value} (h : Chg (Foot r v) w w1) (hm : Moved w v v1) (h2 : Chg (Foot r v1) w1 w2) : Chg (Foot r v) w w2 := h.trans h2 (fun i e => hm.foot r i e)

set_option maxHeartbeats 1000000 in
set_option maxRecDepth 100000 in
theorem recut_zero (B r : Nat) (v : Value) (e : Rc.E) (b : Nat) (w : World) (h : Re w B r v (Rc.by_ e) e.R e.k) (hO : Rc.Ok e) (h1 : 65536 ≤ b) (h2 : b + 65536 ≤ e.R) (hk : e.k ≤ 70368744177664) (hB : B ≤ w.heap.size) :
    Calls Try.prog 44 #[.pointer (some ⟨r, 0, none⟩), .int .u32 (b : Int), .int .i64 0] w fun x w' => x = .returned (.tuple #[]) ∧ ∃ v', Re w' B r v' (Rc.by_ (Rc.cut e b false)) (Rc.cut e b false).R (Rc.cut e b false).k ∧ Chg (Foot r v) w w' ∧ Moved w v v' := by
  obtain ⟨_, k1, _, kf⟩ := cells3 h.blk
  have f1 := kf 1
  have hi := hO.hi
  obtain ⟨hS, hC⟩ := h.setR (b : Int) rfl
  have HS : Hid (Re (w.setCell ⟨r, 1, none⟩ (.int .u32 (b : Int))) B r v (Rc.dg (e.k + 5) e.L) b e.k) := hS
  have HC : Hid (Chg (fun z => z = r) w (w.setCell ⟨r, 1, none⟩ (.int .u32 (b : Int)))) := hC
  clear h kf hS hC
  go_enter Try.func44, Try.ntmps44
  go_wp2_with fail
  refine (widens_any B r v ⟨e.L, b, e.k⟩ _ HS.out h1 (by show b ≤ _; omega) hk (by rw [set_size]; exact hB)).mono ?_
  rintro x w2 ⟨rfl, v', hR, hC2, hM⟩
  have HR : Hid (Re w2 B r v' (Rc.by_ (Rc.cut e b false)) (Rc.cut e b false).R (Rc.cut e b false).k) := hR
  have HC2 : Hid (Chg (Foot r v) w w2) := (HC.out.mono (T := Foot r v) (fun _ e => .inl (.inl e))).trans hC2 (fun _ e => .inl e)
  have HM : Hid (Moved w v v') := fun g e => by
    rcases hM g e with e | e
    · exact .inl e
    · rw [set_size] at e; exact .inr e
  clear hR hC2 hM HS HC
  go_wp2
  go_end0
  exact ⟨rfl, v', HR.out, HC2.out, HM.out⟩

set_option maxHeartbeats 1000000 in
set_option maxRecDepth 100000 in
theorem recut_one (B r : Nat) (v : Value) (e : Rc.E) (b : Nat) (t : Int) (w : World) (h : Re w B r v (Rc.by_ e) e.R e.k) (hO : Rc.Ok e) (h1 : 65536 ≤ b) (h2 : b + 65536 ≤ e.R) (ht : t ≠ 0) (hk : e.k ≤ 70368744177664) (hB : B ≤ w.heap.size) :
    Calls Try.prog 44 #[.pointer (some ⟨r, 0, none⟩), .int .u32 (b : Int), .int .i64 t] w fun x w' => x = .returned (.tuple #[]) ∧ ∃ v', Re w' B r v' (Rc.by_ (Rc.cut e b true)) (Rc.cut e b true).R (Rc.cut e b true).k ∧ Chg (Foot r v) w w' ∧ Moved w v v' := by
  have hi := hO.hi
  have hlen : (Rc.by_ e).length = e.k + 5 := Rc.dg_len _ _
  have hval : Rc.val (Rc.by_ e) = e.L := Rc.val_dg _ _ hO.lt
  have hfit : b + Rc.val (Rc.by_ e) < 256 ^ (Rc.by_ e).length := by
    rw [hval, hlen]
    have h3 := hO.sum
    have e1 : 256 ^ (e.k + 5) = 256 ^ e.k * 1099511627776 := by rw [Nat.pow_add]
    have pos : 0 < 256 ^ e.k := Nat.pow_pos (by omega)
    omega
  have HA : Hid (∀ w2, w2 = w → Calls Try.prog 47 #[.pointer (some ⟨r, 0, none⟩), .int .u32 (b : Int)] w2 fun x w' => x = .returned (.tuple #[]) ∧ Re w' B r v (Rc.dg (e.k + 5) (e.L + b)) e.R e.k ∧ Chg (fun z => v.ownBlock = some z) w w') := fun w2 e2 => by
    subst e2
    have := adds_any B r v (Rc.by_ e) e.R e.k b w2 h (by omega) (by rw [hlen]; omega) (by rw [hlen]; omega) hfit
    rw [hlen, hval] at this
    exact this
  clear h hlen hval hfit
  go_enter Try.func44, Try.ntmps44
  go_wp2_with fail
  refine (HA.out _ rfl).mono ?_
  rintro x w1 ⟨rfl, hR1, hC1⟩
  obtain ⟨_, k1, _, kf⟩ := cells3 hR1.blk
  have f1 := kf 1
  obtain ⟨hS, hC⟩ := hR1.setR (Q := e.R - b) ((e.R : Int) - (b : Int)) (by omega)
  have HS : Hid (Re (w1.setCell ⟨r, 1, none⟩ (.int .u32 ((e.R : Int) - (b : Int)))) B r v (Rc.dg (e.k + 5) (e.L + b)) (e.R - b) e.k) := hS
  have HC : Hid (Chg (Foot r v) w (w1.setCell ⟨r, 1, none⟩ (.int .u32 ((e.R : Int) - (b : Int))))) := (hC1.mono (T := Foot r v) (fun _ e => .inl (.inr e))).trans hC (fun _ e => .inl (.inl e))
  have hs1 : w.heap.size ≤ w1.heap.size := hC1.size
  clear kf hS hC hR1 hC1 HA
  go_wp2_with fail
  refine (widens_any B r v ⟨e.L + b, e.R - b, e.k⟩ _ HS.out (by show _ ≤ e.R - b; omega) (by show e.R - b ≤ _; omega) hk (by rw [set_size]; omega)).mono ?_
  rintro x w2 ⟨rfl, v', hR, hC2, hM⟩
  have HR : Hid (Re w2 B r v' (Rc.by_ (Rc.cut e b true)) (Rc.cut e b true).R (Rc.cut e b true).k) := hR
  have HC2 : Hid (Chg (Foot r v) w w2) := HC.out.trans hC2 (fun _ e => .inl e)
  have HM : Hid (Moved w v v') := fun g e => by
    rcases hM g e with e | e
    · exact .inl e
    · rw [set_size] at e; exact .inr (by omega)
  clear hR hC2 hM HS HC
  go_wp2
  go_end0
  exact ⟨rfl, v', HR.out, HC2.out, HM.out⟩
end Go.Proofs.Ythhjllhcgdkjnaa
