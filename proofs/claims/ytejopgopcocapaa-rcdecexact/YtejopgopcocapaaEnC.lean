/- The contracts of the program's Bit; of no statement by themselves. -/
import Derived.Test.YtejopgopcocapaaEnB
import Derived.Test.YtejopgopcocapaaRefC
namespace Go.Proofs.Ytejopgopcocapaa
open Go.RowKit
set_option linter.unusedVariables false

set_option maxHeartbeats 2000000 in
set_option maxRecDepth 100000 in
theorem bit_zero (B B' a s : Nat) (u v : Value) (xs : List Int) (j : Nat) (e : Rc.E) (w : World) (hS : St w B' s u xs) (hI : In31 xs) (hj : j < xs.length) (h : Enc w B a v e) (hO : Rc.Ok e) (hk : e.k + 1 ≤ 140737488355328) (hB : B ≤ w.heap.size) :
    Calls Try.prog 32 #[.pointer (some ⟨a, 0, none⟩), .pointer (some ⟨s, 0, none⟩), .int .i64 j, .int .i64 0] w fun x w' => x = .returned (.int .i64 0) ∧ ∃ v', Enc w' B a v' (coded e xs[j] 0) ∧ St w' B' s u (xs.set j (Prob.nx xs[j] 0)) ∧ Chg (fun z => Foot a v z ∨ u.ownBlock = some z) w w' ∧ Moved w v v' := by
  have hp := hI.at j hj
  have hbn := bo_nat (R := e.R) hp.1 hp.2
  have HBB : Hid (65536 ≤ e.R / 2048 * xs[j].toNat ∧ e.R / 2048 * xs[j].toNat + 65536 ≤ e.R) := Rc.bound_in (R := e.R) (p := xs[j].toNat) hO.lo (by omega) (by omega)
  have hi := hO.hi
  have HI : Hid (e.R ≤ 4294967295) := hi
  obtain ⟨l, hE, hIs⟩ := h
  have k4 := (cells5 hE.blk).2.2.2.2.1
  have f4 := (cells5 hE.blk).2.2.2.2.2 4
  have HE : Hid (En w B a v l e.R) := hE
  have HIs : Hid (Rc.Is l e) := hIs
  have HS : Hid (St w B' s u xs) := hS
  have HP : Hid (I64 xs[j]) := (show I64 _ from ⟨by omega, by omega⟩)
  have HO : Hid (Rc.Ok e) := hO
  have HK : Hid (e.k + 1 ≤ 140737488355328) := hk
  have HB0 : Hid (B ≤ w.heap.size) := hB
  have HJ : Hid (j < xs.length) := hj
  have HIN : Hid (In xs) := hI.inn
  obtain ⟨z, hz⟩ : ∃ z : Int, z = (e.R : Int) := ⟨_, rfl⟩
  have HZ : Hid (z = (e.R : Int)) := hz
  have HBN : Hid (Prob.bo z xs[j] = ((e.R / 2048 * xs[j].toNat : Nat) : Int)) := by show _ = _; rw [hz]; exact hbn
  have HUz : Hid (U32 z) := by show U32 z; rw [hz]; exact ⟨by omega, by omega⟩
  have z1 : 0 ≤ z := by omega
  have z2 : z ≤ 4294967295 := by omega
  rw [← hz] at k4
  clear hE hIs hS hbn hp hi hO hk hB hz
  obtain ⟨p, hp⟩ : ∃ p : Int, p = xs[j] := ⟨_, rfl⟩
  have HPP : Hid (p = xs[j]) := hp
  have HAt : Hid (∀ w2, w2 = w → Calls Try.prog 13 #[.pointer (some ⟨s, 0, none⟩), .int .i64 j] w2 fun x w' => x = .returned (.tuple #[.int .i64 p, .int .i64 0]) ∧ w2 = w') := fun w2 e2 => by
    subst e2
    rw [hp]
    exact at_in B' s u xs j _ HS.out HIN.out HJ.out
  have HBd : Hid (∀ w2, Calls Try.prog 40 #[.int .u32 z, .int .i64 p] w2 fun x w' => x = .returned (.int .u32 ((e.R / 2048 * xs[j].toNat : Nat) : Int)) ∧ w2 = w') := fun w2 => by
    have := bound_any z p w2 HUz.out (by rw [hp]; exact HP.out)
    rw [hp, HBN.out] at this
    rw [hp]
    exact this
  clear hp hI
  go_enter Try.func32, Try.ntmps32
  go_wp2_with fail
  refine (HAt.out _ rfl).mono ?_
  rintro x w1 ⟨rfl, rfl⟩
  go_wp2_with fail
  refine (HBd.out _).mono ?_
  rintro x w1 ⟨rfl, rfl⟩
  generalize hbv : e.R / 2048 * xs[j].toNat = bb at *
  have HBV : Hid (e.R / 2048 * xs[j].toNat = bb) := hbv
  have b1 : (65536 : Int) ≤ (bb : Int) := by have := HBB.out; omega
  have b2 : (bb : Int) ≤ z := by have := HBB.out; have := HZ.out; omega
  clear hbv HAt HBd
  obtain ⟨hS4, hC4⟩ := HE.out.setR bb (bb : Int) rfl
  have HS4 : Hid (Enc (w.setCell ⟨a, 4, none⟩ (.int .u32 (bb : Int))) B a v ⟨e.L, bb, e.k⟩) := ⟨l, hS4, HIs.out.less (by have := HBB.out; omega)⟩
  have HC4 : Hid (Chg (Foot a v) w (w.setCell ⟨a, 4, none⟩ (.int .u32 (bb : Int)))) := hC4.mono (fun _ e => .inl (.inl e))
  clear hS4 hC4
  go_wp2_with fail
  refine (widen_any B a v ⟨e.L, bb, e.k⟩ _ HS4.out HBB.out.1 (by have := HBB.out; have := HI.out; show bb ≤ _; omega) HK.out (by rw [set_size]; exact HB0.out)).mono ?_
  rintro x w2 ⟨rfl, v', hR, hC, hM⟩
  have HC2 : Hid (Chg (Foot a v) w w2) := HC4.out.trans hC (fun _ e => .inl e)
  have HM2 : Hid (Moved w v v') := fun g e => by
    rcases hM g e with e | e
    · exact .inl e
    · rw [set_size] at e; exact .inr e
  have HR : Hid (Enc w2 B a v' (coded e xs[j] 0)) := by
    show Enc _ _ _ _ _
    unfold coded
    rw [HBV.out]
    show Enc _ _ _ _ (Rc.cut e bb false)
    exact hR
  have hne : ∀ {W : World} {v2 : Value} {l2 : Rc.Lo} {R2 : Nat}, En W B a v2 l2 R2 → St W B' s u xs → ∀ z, Foot a v2 z → z ≠ s ∧ u.ownBlock ≠ some z := fun hE hS z f => by
    rcases f with rfl | f
    · refine ⟨fun e => ?_, fun e => ?_⟩
      · have h1 := hE.blk
        rw [e] at h1
        exact ty_ne h1 hS.blk (by decide)
      · obtain ⟨cur, hcur⟩ := owns_blk hS.own e
        exact ty_ne hE.blk hcur (by decide)
    · obtain ⟨c1, h1⟩ := owns_blk hE.own f
      refine ⟨fun e => ?_, fun e => ?_⟩
      · rw [e] at h1
        exact ty_ne h1 hS.blk (by decide)
      · obtain ⟨cur, hcur⟩ := owns_blk hS.own e
        exact ty_ne h1 hcur (by decide)
  have HS2 : Hid (St w2 B' s u xs) := HS.out.keep HC2.out (fun f => (hne HE.out HS.out _ f).1 rfl) (fun g e f => (hne HE.out HS.out _ f).2 e)
  clear hR hC hM hne k4 HE HS f4 HS4 HC4
  go_wp2_with fail
  refine (turn_in B' s u xs j 0 _ HS2.out HIN.out HJ.out).mono ?_
  rintro x w3 ⟨rfl, h3, c3⟩
  have HR3 : Hid (Enc w3 B a v' (coded e xs[j] 0)) := by
    obtain ⟨l3, hE3, hI3⟩ := HR.out
    refine ⟨l3, hE3.keep c3 (fun f => ?_) (fun g e f => ?_), hI3⟩
    · obtain ⟨cur, hcur⟩ := owns_blk HS2.out.own f
      exact ty_ne hE3.blk hcur (by decide)
    · obtain ⟨c1, h1⟩ := owns_blk hE3.own e
      obtain ⟨c2, h2⟩ := owns_blk HS2.out.own f
      exact ty_ne h1 h2 (by decide)
  have H3 : Hid (St w3 B' s u (xs.set j (Prob.nx xs[j] 0))) := h3
  have HC3 : Hid (Chg (fun z => Foot a v z ∨ u.ownBlock = some z) w w3) := (HC2.out.mono (T := fun z => Foot a v z ∨ u.ownBlock = some z) (fun _ e => .inl (.inl e))).trans c3 (fun _ e => .inl (.inr e))
  clear h3 c3 HR HC2 HS2
  go_wp2
  go_ret
  exact ⟨rfl, v', HR3.out, H3.out, HC3.out, HM2.out⟩

set_option maxHeartbeats 2000000 in
set_option maxRecDepth 100000 in
theorem bit_one (B B' a s : Nat) (u v : Value) (xs : List Int) (j : Nat) (t : Int) (e : Rc.E) (w : World) (hS : St w B' s u xs) (hI : In31 xs) (hj : j < xs.length) (h : Enc w B a v e) (hO : Rc.Ok e) (hk : e.k + 1 ≤ 140737488355328) (hB : B ≤ w.heap.size) (ht : t ≠ 0) :
    Calls Try.prog 32 #[.pointer (some ⟨a, 0, none⟩), .pointer (some ⟨s, 0, none⟩), .int .i64 j, .int .i64 t] w fun x w' => x = .returned (.int .i64 0) ∧ ∃ v', Enc w' B a v' (coded e xs[j] t) ∧ St w' B' s u (xs.set j (Prob.nx xs[j] t)) ∧ Chg (fun z => Foot a v z ∨ u.ownBlock = some z) w w' ∧ Moved w v v' := by
  have hp := hI.at j hj
  have hbn := bo_nat (R := e.R) hp.1 hp.2
  have HBB : Hid (65536 ≤ e.R / 2048 * xs[j].toNat ∧ e.R / 2048 * xs[j].toNat + 65536 ≤ e.R) := Rc.bound_in (R := e.R) (p := xs[j].toNat) hO.lo (by omega) (by omega)
  have hi := hO.hi
  have HI : Hid (e.R ≤ 4294967295) := hi
  obtain ⟨l, hE, hIs⟩ := h
  have k4 := (cells5 hE.blk).2.2.2.2.1
  have f4 := (cells5 hE.blk).2.2.2.2.2 4
  have HE : Hid (En w B a v l e.R) := hE
  have HIs : Hid (Rc.Is l e) := hIs
  have HS : Hid (St w B' s u xs) := hS
  have HP : Hid (I64 xs[j]) := (show I64 _ from ⟨by omega, by omega⟩)
  have HO : Hid (Rc.Ok e) := hO
  have HK : Hid (e.k + 1 ≤ 140737488355328) := hk
  have HB0 : Hid (B ≤ w.heap.size) := hB
  have HJ : Hid (j < xs.length) := hj
  have HIN : Hid (In xs) := hI.inn
  obtain ⟨z, hz⟩ : ∃ z : Int, z = (e.R : Int) := ⟨_, rfl⟩
  have HZ : Hid (z = (e.R : Int)) := hz
  have HBN : Hid (Prob.bo z xs[j] = ((e.R / 2048 * xs[j].toNat : Nat) : Int)) := by show _ = _; rw [hz]; exact hbn
  have HUz : Hid (U32 z) := by show U32 z; rw [hz]; exact ⟨by omega, by omega⟩
  have z1 : 0 ≤ z := by omega
  have z2 : z ≤ 4294967295 := by omega
  rw [← hz] at k4
  clear hE hIs hS hbn hp hi hO hk hB hz
  obtain ⟨p, hp⟩ : ∃ p : Int, p = xs[j] := ⟨_, rfl⟩
  have HPP : Hid (p = xs[j]) := hp
  have HAt : Hid (∀ w2, w2 = w → Calls Try.prog 13 #[.pointer (some ⟨s, 0, none⟩), .int .i64 j] w2 fun x w' => x = .returned (.tuple #[.int .i64 p, .int .i64 0]) ∧ w2 = w') := fun w2 e2 => by
    subst e2
    rw [hp]
    exact at_in B' s u xs j _ HS.out HIN.out HJ.out
  have HBd : Hid (∀ w2, Calls Try.prog 40 #[.int .u32 z, .int .i64 p] w2 fun x w' => x = .returned (.int .u32 ((e.R / 2048 * xs[j].toNat : Nat) : Int)) ∧ w2 = w') := fun w2 => by
    have := bound_any z p w2 HUz.out (by rw [hp]; exact HP.out)
    rw [hp, HBN.out] at this
    rw [hp]
    exact this
  clear hp hI
  have ht2 : decide (t = 0) = false := by simp; exact ht
  go_enter Try.func32, Try.ntmps32
  go_wp2_with fail
  refine (HAt.out _ rfl).mono ?_
  rintro x w1 ⟨rfl, rfl⟩
  go_wp2_with fail
  refine (HBd.out _).mono ?_
  rintro x w1 ⟨rfl, rfl⟩
  generalize hbv : e.R / 2048 * xs[j].toNat = bb at *
  have HBV : Hid (e.R / 2048 * xs[j].toNat = bb) := hbv
  have b1 : (65536 : Int) ≤ (bb : Int) := by have := HBB.out; omega
  have b2 : (bb : Int) ≤ z := by have := HBB.out; have := HZ.out; omega
  clear hbv HAt HBd
  have bb2 : (bb : Int) ≤ 4294967295 := by omega
  go_wp2_with fail
  refine (adde_any B a v e bb (e.R - bb) e.R _ l HE.out HIs.out (by omega) (by have := HBB.out; omega) (by have := HBB.out; omega) HI.out HK.out HB0.out).mono ?_
  rintro x w1 ⟨rfl, v1, l1, hE1, hI1, hC1, hM1⟩
  have q4 : w1.cell? ⟨a, 4, none⟩ = some (.int .u32 z) := by have hz := HZ.out; rw [hz]; exact (cells5 hE1.blk).2.2.2.2.1
  have g4 := (cells5 hE1.blk).2.2.2.2.2 4
  obtain ⟨hS4, hC4⟩ := hE1.setR (e.R - bb) (z - (bb : Int)) (by have := HBB.out; have := HZ.out; omega)
  have HS4 : Hid (Enc (w1.setCell ⟨a, 4, none⟩ (.int .u32 (z - (bb : Int)))) B a v1 ⟨e.L + bb, e.R - bb, e.k⟩) := ⟨l1, hS4, hI1⟩
  have HC4 : Hid (Chg (Foot a v) w (w1.setCell ⟨a, 4, none⟩ (.int .u32 (z - (bb : Int))))) := hC1.trans hC4 (fun _ e => .inl (.inl e))
  have HM1 : Hid (Moved w v v1) := hM1
  have HS1 : Hid (w.heap.size ≤ w1.heap.size) := hC1.size
  clear hS4 hC4 hE1 hI1 hC1 hM1
  go_wp2_with fail
  refine (widen_any B a v1 ⟨e.L + bb, e.R - bb, e.k⟩ _ HS4.out (by have := HBB.out; show _ ≤ e.R - bb; omega) (by have := HI.out; show e.R - bb ≤ _; omega) HK.out (by rw [set_size]; exact Nat.le_trans HB0.out HS1.out)).mono ?_
  rintro x w2 ⟨rfl, v', hR, hC, hM⟩
  have HC2 : Hid (Chg (Foot a v) w w2) := HC4.out.trans hC (fun i e => HM1.out.foot a i e)
  have HM2 : Hid (Moved w v v') := HM1.out.trans HS1.out (fun g e => by
    rcases hM g e with e | e
    · exact .inl e
    · rw [set_size] at e; exact .inr e)
  have HR : Hid (Enc w2 B a v' (coded e xs[j] t)) := by
    show Enc _ _ _ _ _
    unfold coded
    rw [HBV.out]
    rw [show decide (t ≠ 0) = true from decide_eq_true ht]
    show Enc _ _ _ _ (Rc.cut e bb true)
    exact hR
  have hne : ∀ {W : World} {v2 : Value} {l2 : Rc.Lo} {R2 : Nat}, En W B a v2 l2 R2 → St W B' s u xs → ∀ z, Foot a v2 z → z ≠ s ∧ u.ownBlock ≠ some z := fun hE hS z f => by
    rcases f with rfl | f
    · refine ⟨fun e => ?_, fun e => ?_⟩
      · have h1 := hE.blk
        rw [e] at h1
        exact ty_ne h1 hS.blk (by decide)
      · obtain ⟨cur, hcur⟩ := owns_blk hS.own e
        exact ty_ne hE.blk hcur (by decide)
    · obtain ⟨c1, h1⟩ := owns_blk hE.own f
      refine ⟨fun e => ?_, fun e => ?_⟩
      · rw [e] at h1
        exact ty_ne h1 hS.blk (by decide)
      · obtain ⟨cur, hcur⟩ := owns_blk hS.own e
        exact ty_ne h1 hcur (by decide)
  have HS2 : Hid (St w2 B' s u xs) := HS.out.keep HC2.out (fun f => (hne HE.out HS.out _ f).1 rfl) (fun g e f => (hne HE.out HS.out _ f).2 e)
  clear hR hC hM hne k4 HE HS f4 HS4 HC4 q4 g4
  go_wp2_with fail
  refine (turn_in B' s u xs j t _ HS2.out HIN.out HJ.out).mono ?_
  rintro x w3 ⟨rfl, h3, c3⟩
  have HR3 : Hid (Enc w3 B a v' (coded e xs[j] t)) := by
    obtain ⟨l3, hE3, hI3⟩ := HR.out
    refine ⟨l3, hE3.keep c3 (fun f => ?_) (fun g e f => ?_), hI3⟩
    · obtain ⟨cur, hcur⟩ := owns_blk HS2.out.own f
      exact ty_ne hE3.blk hcur (by decide)
    · obtain ⟨c1, h1⟩ := owns_blk hE3.own e
      obtain ⟨c2, h2⟩ := owns_blk HS2.out.own f
      exact ty_ne h1 h2 (by decide)
  have H3 : Hid (St w3 B' s u (xs.set j (Prob.nx xs[j] t))) := h3
  have HC3 : Hid (Chg (fun z => Foot a v z ∨ u.ownBlock = some z) w w3) := (HC2.out.mono (T := fun z => Foot a v z ∨ u.ownBlock = some z) (fun _ e => .inl (.inl e))).trans c3 (fun _ e => .inl (.inr e))
  clear h3 c3 HR HC2 HS2
  go_wp2
  go_ret
  exact ⟨rfl, v', HR3.out, H3.out, HC3.out, HM2.out⟩

theorem bit_in (B B' a s : Nat) (u v : Value) (xs : List Int) (j : Nat) (t : Int) (e : Rc.E) (w : World) (hS : St w B' s u xs) (hI : In31 xs) (hj : j < xs.length) (h : Enc w B a v e) (hO : Rc.Ok e) (hk : e.k + 1 ≤ 140737488355328) (hB : B ≤ w.heap.size) :
    Calls Try.prog 32 #[.pointer (some ⟨a, 0, none⟩), .pointer (some ⟨s, 0, none⟩), .int .i64 j, .int .i64 t] w fun x w' => x = .returned (.int .i64 0) ∧ ∃ v', Enc w' B a v' (coded e xs[j] t) ∧ St w' B' s u (xs.set j (Prob.nx xs[j] t)) ∧ Chg (fun z => Foot a v z ∨ u.ownBlock = some z) w w' ∧ Moved w v v' := by
  by_cases ht : t = 0
  · subst ht
    exact bit_zero B B' a s u v xs j e w hS hI hj h hO hk hB
  · exact bit_one B B' a s u v xs j t e w hS hI hj h hO hk hB ht

theorem bit_out (B' s : Nat) (u rv : Value) (xs : List Int) (i : Int) (t : Value) (w : World) (hS : St w B' s u xs) (hi : i < 0 ∨ (xs.length : Int) ≤ i) :
    Calls Try.prog 32 #[rv, .pointer (some ⟨s, 0, none⟩), .int .i64 i, t] w fun x w' => x = .returned (.int .i64 7) ∧ w = w' := by
  go_enter Try.func32, Try.ntmps32
  go_wp2_with fail
  refine (at_out B' s u xs i _ hS hi).mono ?_
  rintro x w1 ⟨rfl, rfl⟩
  go_wp2
  go_ret
  exact ⟨rfl, rfl⟩
end Go.Proofs.Ytejopgopcocapaa
