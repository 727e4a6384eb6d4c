/- The contract of the document's Bit; of no statement by itself. -/
import Derived.Test.YthhjllhcgdkjnaaRefB
namespace Go.Proofs.Ythhjllhcgdkjnaa
open Go.RowKit
set_option linter.unusedVariables false

/-- All are probabilities that began at Half. -/
def In31 (xs : List Int) : Prop := ∀ p ∈ xs, 31 ≤ p ∧ p ≤ 2017
theorem In31.inn {xs : List Int} (h : In31 xs) : In xs := fun p hp => by have := h p hp; omega
theorem In31.set {xs : List Int} (h : In31 xs) (j : Nat) (p : Int) (hp : 31 ≤ p ∧ p ≤ 2017) : In31 (xs.set j p) := fun q hq => by
  rcases List.mem_or_eq_of_mem_set hq with e | e
  · exact h q e
  · subst e; exact hp
theorem In31.at {xs : List Int} (h : In31 xs) (j : Nat) (hj : j < xs.length) : 31 ≤ xs[j] ∧ xs[j] ≤ 2017 := h _ (List.getElem_mem hj)
theorem In31.half (n : Nat) : In31 (List.replicate n 1024) := fun q hq => by
  obtain ⟨_, rfl⟩ := List.mem_replicate.1 hq
  omega

/-- The encoder behind a bit by a probability. -/
def coded (e : Rc.E) (p b : Int) : Rc.E := Rc.cut e (e.R / 2048 * p.toNat) (decide (b ≠ 0))
theorem bo_nat {R : Nat} {p : Int} (h1 : 31 ≤ p) (h2 : p ≤ 2017) : Prob.bo (R : Int) p = ((R / 2048 * p.toNat : Nat) : Int) := by
  unfold Prob.bo
  rw [Prob.cl_id (by omega) (by omega)]
  have e : ((p.toNat : Nat) : Int) = p := by omega
  simp only [Int.natCast_mul, Int.natCast_ediv, e]
  rfl

theorem recut_any (B r : Nat) (v : Value) (e : Rc.E) (b : Nat) (t : Int) (w : World) (h : Re w B r v (Rc.by_ e) e.R e.k) (hO : Rc.Ok e) (h1 : 65536 ≤ b) (h2 : b + 65536 ≤ e.R) (hk : e.k ≤ 70368744177664) (hB : B ≤ w.heap.size) :
    Calls Try.prog 44 #[.pointer (some ⟨r, 0, none⟩), .int .u32 (b : Int), .int .i64 t] w fun x w' => x = .returned (.tuple #[]) ∧ ∃ v', Re w' B r v' (Rc.by_ (Rc.cut e b (decide (t ≠ 0)))) (Rc.cut e b (decide (t ≠ 0))).R (Rc.cut e b (decide (t ≠ 0))).k ∧ Chg (Foot r v) w w' ∧ Moved w v v' := by
  by_cases ht : t = 0
  · subst ht
    exact recut_zero B r v e b w h hO h1 h2 hk hB
  · have := recut_one B r v e b t w h hO h1 h2 ht hk hB
    simpa [ht] using this

theorem rebit_out (B r s : Nat) (n : Int) (u rv : Value) (xs : List Int) (i : Int) (t : Value) (w : World) (hS : Rt w B s n u xs) (hi : i < 0 ∨ (xs.length : Int) ≤ i) :
    Calls Try.prog 23 #[rv, .pointer (some ⟨s, 0, none⟩), .int .i64 i, t] w fun x w' => x = .returned (.int .i64 7) ∧ w = w' := by
  go_enter Try.func23, Try.ntmps23
  go_wp2_with fail
  refine (rat_out B s n u xs i _ hS hi).mono ?_
  rintro x w1 ⟨rfl, rfl⟩
  go_wp2
  go_ret
  exact ⟨rfl, rfl⟩

set_option maxHeartbeats 1000000 in
set_option maxRecDepth 100000 in
theorem rebit_in (B B' r s : Nat) (n : Int) (u v : Value) (xs : List Int) (j : Nat) (t : Int) (e : Rc.E) (w : World) (hS : Rt w B' s n u xs) (hI : In31 xs) (hj : j < xs.length) (h : Re w B r v (Rc.by_ e) e.R e.k) (hO : Rc.Ok e) (hk : e.k ≤ 70368744177664) (hB : B ≤ w.heap.size) :
    Calls Try.prog 23 #[.pointer (some ⟨r, 0, none⟩), .pointer (some ⟨s, 0, none⟩), .int .i64 j, .int .i64 t] w fun x w' => x = .returned (.int .i64 0) ∧ ∃ v', Re w' B r v' (Rc.by_ (coded e xs[j] t)) (coded e xs[j] t).R (coded e xs[j] t).k ∧ Rt w' B' s n u (xs.set j (Prob.nx xs[j] t)) ∧ Chg (fun z => Foot r v z ∨ u.ownBlock = some z) w w' ∧ Moved w v v' := by
  have hp := hI.at j hj
  have hbn := bo_nat (R := e.R) hp.1 hp.2
  have HBB : Hid (65536 ≤ e.R / 2048 * xs[j].toNat ∧ e.R / 2048 * xs[j].toNat + 65536 ≤ e.R) := Rc.bound_in (R := e.R) (p := xs[j].toNat) hO.lo (by omega) (by omega)
  have hi := hO.hi
  have k1 := (cells3 h.blk).2.1
  have HH : Hid (Re w B r v (Rc.by_ e) e.R e.k) := h
  have HS : Hid (Rt w B' s n u xs) := hS
  have HU : Hid (U32 (e.R : Int)) := (show U32 _ from ⟨by omega, by omega⟩)
  have HP : Hid (I64 xs[j]) := (show I64 _ from ⟨by omega, by omega⟩)
  have HO : Hid (Rc.Ok e) := hO
  have HK : Hid (e.k ≤ 70368744177664) := hk
  have HB0 : Hid (B ≤ w.heap.size) := hB
  have HJ : Hid (j < xs.length) := hj
  obtain ⟨z, hz⟩ : ∃ z : Int, z = (e.R : Int) := ⟨_, rfl⟩
  have HZ : Hid (z = (e.R : Int)) := hz
  have HBN : Hid (Prob.bo z xs[j] = ((e.R / 2048 * xs[j].toNat : Nat) : Int)) := by show _ = _; rw [hz]; exact hbn
  have HUz : Hid (U32 z) := by show U32 z; rw [hz]; exact HU.out
  rw [← hz] at k1
  clear h hS hbn hp hi hO hk hB hz HU
  obtain ⟨p, hp⟩ : ∃ p : Int, p = xs[j] := ⟨_, rfl⟩
  have HPP : Hid (p = xs[j]) := hp
  have HAt : Hid (∀ w2, w2 = w → Calls Try.prog 43 #[.pointer (some ⟨s, 0, none⟩), .int .i64 j] w2 fun x w' => x = .returned (.tuple #[.int .i64 p, .int .i64 0]) ∧ w2 = w') := fun w2 e2 => by
    subst e2
    rw [hp]
    exact rat_in B' s n u xs j _ HS.out HJ.out
  have HBd : Hid (∀ w2, Calls Try.prog 45 #[.int .u32 z, .int .i64 p] w2 fun x w' => x = .returned (.int .u32 ((e.R / 2048 * xs[j].toNat : Nat) : Int)) ∧ w2 = w') := fun w2 => by
    have := rBound_any z p w2 HUz.out (by rw [hp]; exact HP.out)
    rw [hp, HBN.out] at this
    rw [hp]
    exact this
  clear hp
  go_enter Try.func23, Try.ntmps23
  go_wp2_with fail
  refine (HAt.out _ rfl).mono ?_
  rintro x w1 ⟨rfl, rfl⟩
  go_wp2_with fail
  refine (HBd.out _).mono ?_
  rintro x w1 ⟨rfl, rfl⟩
  generalize hbv : e.R / 2048 * xs[j].toNat = bb at *
  have HBV : Hid (e.R / 2048 * xs[j].toNat = bb) := hbv
  clear hbv HAt HBd
  go_wp2_with fail
  refine (recut_any B r v e bb t _ HH.out HO.out HBB.out.1 HBB.out.2 HK.out HB0.out).mono ?_
  rintro x w2 ⟨rfl, v', hR, hC, hM⟩
  have hne : ∀ z, Foot r v z → z ≠ s ∧ u.ownBlock ≠ some z := fun z f => by
    rcases f with rfl | f
    · refine ⟨fun e => ?_, fun e => ?_⟩
      · have h1 := HH.out.blk
        rw [e] at h1
        exact ty_ne h1 HS.out.blk (by decide)
      · obtain ⟨cur, hcur⟩ := owns_blk HS.out.own e
        exact ty_ne HH.out.blk hcur (by decide)
    · obtain ⟨c1, h1⟩ := owns_blk HH.out.own f
      refine ⟨fun e => ?_, fun e => ?_⟩
      · rw [e] at h1
        exact ty_ne h1 HS.out.blk (by decide)
      · obtain ⟨cur, hcur⟩ := owns_blk HS.out.own e
        exact ty_ne h1 hcur (by decide)
  have HS2 : Hid (Rt w2 B' s n u xs) := HS.out.keep hC (fun f => (hne _ f).1 rfl) (fun g e f => (hne _ f).2 e)
  have HR : Hid (Re w2 B r v' (Rc.by_ (coded e xs[j] t)) (coded e xs[j] t).R (coded e xs[j] t).k) := by
    show Re _ _ _ _ _ _ _
    unfold coded
    rw [HBV.out]
    exact hR
  have HC : Hid (Chg (Foot r v) w w2) := hC
  clear hR hC hne k1 HH HS
  go_wp2_with fail
  refine (rturn_in B' s n u xs j t _ HS2.out hI.inn HJ.out).mono ?_
  rintro x w3 ⟨rfl, h3, c3⟩
  have HR3 : Hid (Re w3 B r v' (Rc.by_ (coded e xs[j] t)) (coded e xs[j] t).R (coded e xs[j] t).k) := HR.out.keep c3 (fun f => by
      obtain ⟨cur, hcur⟩ := owns_blk HS2.out.own f
      exact ty_ne HR.out.blk hcur (by decide)) (fun g e f => by
      obtain ⟨c1, h1⟩ := owns_blk HR.out.own e
      obtain ⟨c2, h2⟩ := owns_blk HS2.out.own f
      exact ty_ne h1 h2 (by decide))
  have H3 : Hid (Rt w3 B' s n u (xs.set j (Prob.nx xs[j] t))) := h3
  have HC3 : Hid (Chg (fun z => Foot r v z ∨ u.ownBlock = some z) w w3) := (HC.out.mono (T := fun z => Foot r v z ∨ u.ownBlock = some z) (fun _ e => .inl (.inl e))).trans c3 (fun _ e => .inl (.inr e))
  clear h3 c3 HR HC HS2
  go_wp2
  go_ret
  exact ⟨rfl, v', HR3.out, H3.out, HC3.out, hM⟩
end Go.Proofs.Ythhjllhcgdkjnaa
