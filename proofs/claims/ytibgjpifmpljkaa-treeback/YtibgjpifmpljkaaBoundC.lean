/- Several texts in one, none of a statement by itself: RefC, EnC, RefD, EnE, EnD, EnG, EnF, Bk, Law, Args. -/
import Derived.Test.YtibgjpifmpljkaaBoundB
import Derived.Laws.BitsAllLaws
import Derived.Test.YtibgjpifmpljkaaBoundA
import Derived.Laws.BytesArg
/- The contract of the document's Bit; of no statement by itself. -/
namespace Go.Proofs.Ytibgjpifmpljkaa
open Go.RowKit
set_option linter.unusedVariables false

/-- All are probabilities that began at Half. -/
def In31 (xs : List Int) : Prop := ∀ p ∈ xs, 31 ≤ p ∧ p ≤ 2017
theorem In31.inn {xs : List Int} (h : In31 xs) : In xs := fun p hp => by have := h p hp; omega
theorem In31.set {xs : List Int} (h : In31 xs) (j : Nat) (p : Int) (hp : 31 ≤ p ∧ p ≤ 2017) : In31 (xs.set j p) := fun q hq => by
  rcases List.mem_or_eq_of_mem_set hq with e | e
  · exact h q e
  · subst e; exact hp
theorem In31.at {xs : List Int} (h : In31 xs) (j : Nat) (hj : j < xs.length) : 31 ≤ xs[j] ∧ xs[j] ≤ 2017 := h _ (List.getElem_mem hj)
theorem In31.half (n : Nat) : In31 (List.replicate n 1024) := fun q hq => by
  obtain ⟨_, rfl⟩ := List.mem_replicate.1 hq
  omega

/-- The encoder behind a bit by a probability. -/
def coded (e : Rc.E) (p b : Int) : Rc.E := Rc.cut e (e.R / 2048 * p.toNat) (decide (b ≠ 0))
theorem bo_nat {R : Nat} {p : Int} (h1 : 31 ≤ p) (h2 : p ≤ 2017) : Prob.bo (R : Int) p = ((R / 2048 * p.toNat : Nat) : Int) := by
  unfold Prob.bo
  rw [Prob.cl_id (by omega) (by omega)]
  have e : ((p.toNat : Nat) : Int) = p := by omega
  simp only [Int.natCast_mul, Int.natCast_ediv, e]
  rfl

theorem recut_any (B r : Nat) (v : Value) (e : Rc.E) (b : Nat) (t : Int) (w : World) (h : Re w B r v (Rc.by_ e) e.R e.k) (hO : Rc.Ok e) (h1 : 65536 ≤ b) (h2 : b + 65536 ≤ e.R) (hk : e.k ≤ 70368744177664) (hB : B ≤ w.heap.size) :
    Calls Try.prog 84 #[.pointer (some ⟨r, 0, none⟩), .int .u32 (b : Int), .int .i64 t] w fun x w' => x = .returned (.tuple #[]) ∧ ∃ v', Re w' B r v' (Rc.by_ (Rc.cut e b (decide (t ≠ 0)))) (Rc.cut e b (decide (t ≠ 0))).R (Rc.cut e b (decide (t ≠ 0))).k ∧ Chg (Foot r v) w w' ∧ Moved w v v' := by
  by_cases ht : t = 0
  · subst ht
    exact recut_zero B r v e b w h hO h1 h2 hk hB
  · have := recut_one B r v e b t w h hO h1 h2 ht hk hB
    simpa [ht] using this

theorem rebit_out (B r s : Nat) (n : Int) (u rv : Value) (xs : List Int) (i : Int) (t : Value) (w : World) (hS : Rt w B s n u xs) (hi : i < 0 ∨ (xs.length : Int) ≤ i) :
    Calls Try.prog 58 #[rv, .pointer (some ⟨s, 0, none⟩), .int .i64 i, t] w fun x w' => x = .returned (.int .i64 7) ∧ w = w' := by
  go_enter Try.func58, Try.ntmps58
  go_wp2_with fail
  refine (rat_out B s n u xs i _ hS hi).mono ?_
  rintro x w1 ⟨rfl, rfl⟩
  go_wp2
  go_ret
  exact ⟨rfl, rfl⟩

set_option maxHeartbeats 1000000 in
set_option maxRecDepth 100000 in
theorem rebit_in (B B' r s : Nat) (n : Int) (u v : Value) (xs : List Int) (j : Nat) (t : Int) (e : Rc.E) (w : World) (hS : Rt w B' s n u xs) (hI : In31 xs) (hj : j < xs.length) (h : Re w B r v (Rc.by_ e) e.R e.k) (hO : Rc.Ok e) (hk : e.k ≤ 70368744177664) (hB : B ≤ w.heap.size) :
    Calls Try.prog 58 #[.pointer (some ⟨r, 0, none⟩), .pointer (some ⟨s, 0, none⟩), .int .i64 j, .int .i64 t] w fun x w' => x = .returned (.int .i64 0) ∧ ∃ v', Re w' B r v' (Rc.by_ (coded e xs[j] t)) (coded e xs[j] t).R (coded e xs[j] t).k ∧ Rt w' B' s n u (xs.set j (Prob.nx xs[j] t)) ∧ Chg (fun z => Foot r v z ∨ u.ownBlock = some z) w w' ∧ Moved w v v' := by
  have hp := hI.at j hj
  have hbn := bo_nat (R := e.R) hp.1 hp.2
  have HBB : Hid (65536 ≤ e.R / 2048 * xs[j].toNat ∧ e.R / 2048 * xs[j].toNat + 65536 ≤ e.R) := Rc.bound_in (R := e.R) (p := xs[j].toNat) hO.lo (by omega) (by omega)
  have hi := hO.hi
  have k1 := (cells3 h.blk).2.1
  have HH : Hid (Re w B r v (Rc.by_ e) e.R e.k) := h
  have HS : Hid (Rt w B' s n u xs) := hS
  have HU : Hid (U32 (e.R : Int)) := (show U32 _ from ⟨by omega, by omega⟩)
  have HP : Hid (I64 xs[j]) := (show I64 _ from ⟨by omega, by omega⟩)
  have HO : Hid (Rc.Ok e) := hO
  have HK : Hid (e.k ≤ 70368744177664) := hk
  have HB0 : Hid (B ≤ w.heap.size) := hB
  have HJ : Hid (j < xs.length) := hj
  obtain ⟨z, hz⟩ : ∃ z : Int, z = (e.R : Int) := ⟨_, rfl⟩
  have HZ : Hid (z = (e.R : Int)) := hz
  have HBN : Hid (Prob.bo z xs[j] = ((e.R / 2048 * xs[j].toNat : Nat) : Int)) := by show _ = _; rw [hz]; exact hbn
  have HUz : Hid (U32 z) := by show U32 z; rw [hz]; exact HU.out
  rw [← hz] at k1
  clear h hS hbn hp hi hO hk hB hz HU
  obtain ⟨p, hp⟩ : ∃ p : Int, p = xs[j] := ⟨_, rfl⟩
  have HPP : Hid (p = xs[j]) := hp
  have HAt : Hid (∀ w2, w2 = w → Calls Try.prog 83 #[.pointer (some ⟨s, 0, none⟩), .int .i64 j] w2 fun x w' => x = .returned (.tuple #[.int .i64 p, .int .i64 0]) ∧ w2 = w') := fun w2 e2 => by
    subst e2
    rw [hp]
    exact rat_in B' s n u xs j _ HS.out HJ.out
  have HBd : Hid (∀ w2, Calls Try.prog 85 #[.int .u32 z, .int .i64 p] w2 fun x w' => x = .returned (.int .u32 ((e.R / 2048 * xs[j].toNat : Nat) : Int)) ∧ w2 = w') := fun w2 => by
    have := rBound_any z p w2 HUz.out (by rw [hp]; exact HP.out)
    rw [hp, HBN.out] at this
    rw [hp]
    exact this
  clear hp
  go_enter Try.func58, Try.ntmps58
  go_wp2_with fail
  refine (HAt.out _ rfl).mono ?_
  rintro x w1 ⟨rfl, rfl⟩
  go_wp2_with fail
  refine (HBd.out _).mono ?_
  rintro x w1 ⟨rfl, rfl⟩
  generalize hbv : e.R / 2048 * xs[j].toNat = bb at *
  have HBV : Hid (e.R / 2048 * xs[j].toNat = bb) := hbv
  clear hbv HAt HBd
  go_wp2_with fail
  refine (recut_any B r v e bb t _ HH.out HO.out HBB.out.1 HBB.out.2 HK.out HB0.out).mono ?_
  rintro x w2 ⟨rfl, v', hR, hC, hM⟩
  have hne : ∀ z, Foot r v z → z ≠ s ∧ u.ownBlock ≠ some z := fun z f => by
    rcases f with rfl | f
    · refine ⟨fun e => ?_, fun e => ?_⟩
      · have h1 := HH.out.blk
        rw [e] at h1
        exact ty_ne h1 HS.out.blk (by decide)
      · obtain ⟨cur, hcur⟩ := owns_blk HS.out.own e
        exact ty_ne HH.out.blk hcur (by decide)
    · obtain ⟨c1, h1⟩ := owns_blk HH.out.own f
      refine ⟨fun e => ?_, fun e => ?_⟩
      · rw [e] at h1
        exact ty_ne h1 HS.out.blk (by decide)
      · obtain ⟨cur, hcur⟩ := owns_blk HS.out.own e
        exact ty_ne h1 hcur (by decide)
  have HS2 : Hid (Rt w2 B' s n u xs) := HS.out.keep hC (fun f => (hne _ f).1 rfl) (fun g e f => (hne _ f).2 e)
  have HR : Hid (Re w2 B r v' (Rc.by_ (coded e xs[j] t)) (coded e xs[j] t).R (coded e xs[j] t).k) := by
    show Re _ _ _ _ _ _ _
    unfold coded
    rw [HBV.out]
    exact hR
  have HC : Hid (Chg (Foot r v) w w2) := hC
  clear hR hC hne k1 HH HS
  go_wp2_with fail
  refine (rturn_in B' s n u xs j t _ HS2.out hI.inn HJ.out).mono ?_
  rintro x w3 ⟨rfl, h3, c3⟩
  have HR3 : Hid (Re w3 B r v' (Rc.by_ (coded e xs[j] t)) (coded e xs[j] t).R (coded e xs[j] t).k) := HR.out.keep c3 (fun f => by
      obtain ⟨cur, hcur⟩ := owns_blk HS2.out.own f
      exact ty_ne HR.out.blk hcur (by decide)) (fun g e f => by
      obtain ⟨c1, h1⟩ := owns_blk HR.out.own e
      obtain ⟨c2, h2⟩ := owns_blk HS2.out.own f
      exact ty_ne h1 h2 (by decide))
  have H3 : Hid (Rt w3 B' s n u (xs.set j (Prob.nx xs[j] t))) := h3
  have HC3 : Hid (Chg (fun z => Foot r v z ∨ u.ownBlock = some z) w w3) := (HC.out.mono (T := fun z => Foot r v z ∨ u.ownBlock = some z) (fun _ e => .inl (.inl e))).trans c3 (fun _ e => .inl (.inr e))
  clear h3 c3 HR HC HS2
  go_wp2
  go_ret
  exact ⟨rfl, v', HR3.out, H3.out, HC3.out, hM⟩
end Go.Proofs.Ytibgjpifmpljkaa

/- The contracts of the program's Bit; of no statement by themselves. -/
namespace Go.Proofs.Ytibgjpifmpljkaa
open Go.RowKit
set_option linter.unusedVariables false

set_option maxHeartbeats 2000000 in
set_option maxRecDepth 100000 in
theorem bit_zero (B B' a s : Nat) (u v : Value) (xs : List Int) (j : Nat) (e : Rc.E) (w : World) (hS : St w B' s u xs) (hI : In31 xs) (hj : j < xs.length) (h : Enc w B a v e) (hO : Rc.Ok e) (hk : e.k + 1 ≤ 140737488355328) (hB : B ≤ w.heap.size) :
    Calls Try.prog 43 #[.pointer (some ⟨a, 0, none⟩), .pointer (some ⟨s, 0, none⟩), .int .i64 j, .int .i64 0] w fun x w' => x = .returned (.int .i64 0) ∧ ∃ v', Enc w' B a v' (coded e xs[j] 0) ∧ St w' B' s u (xs.set j (Prob.nx xs[j] 0)) ∧ Chg (fun z => Foot a v z ∨ u.ownBlock = some z) w w' ∧ Moved w v v' := by
  have hp := hI.at j hj
  have hbn := bo_nat (R := e.R) hp.1 hp.2
  have HBB : Hid (65536 ≤ e.R / 2048 * xs[j].toNat ∧ e.R / 2048 * xs[j].toNat + 65536 ≤ e.R) := Rc.bound_in (R := e.R) (p := xs[j].toNat) hO.lo (by omega) (by omega)
  have hi := hO.hi
  have HI : Hid (e.R ≤ 4294967295) := hi
  obtain ⟨l, hE, hIs⟩ := h
  have k4 := (cells5 hE.blk).2.2.2.2.1
  have f4 := (cells5 hE.blk).2.2.2.2.2 4
  have HE : Hid (En w B a v l e.R) := hE
  have HIs : Hid (Rc.Is l e) := hIs
  have HS : Hid (St w B' s u xs) := hS
  have HP : Hid (I64 xs[j]) := (show I64 _ from ⟨by omega, by omega⟩)
  have HO : Hid (Rc.Ok e) := hO
  have HK : Hid (e.k + 1 ≤ 140737488355328) := hk
  have HB0 : Hid (B ≤ w.heap.size) := hB
  have HJ : Hid (j < xs.length) := hj
  have HIN : Hid (In xs) := hI.inn
  obtain ⟨z, hz⟩ : ∃ z : Int, z = (e.R : Int) := ⟨_, rfl⟩
  have HZ : Hid (z = (e.R : Int)) := hz
  have HBN : Hid (Prob.bo z xs[j] = ((e.R / 2048 * xs[j].toNat : Nat) : Int)) := by show _ = _; rw [hz]; exact hbn
  have HUz : Hid (U32 z) := by show U32 z; rw [hz]; exact ⟨by omega, by omega⟩
  have z1 : 0 ≤ z := by omega
  have z2 : z ≤ 4294967295 := by omega
  rw [← hz] at k4
  clear hE hIs hS hbn hp hi hO hk hB hz
  obtain ⟨p, hp⟩ : ∃ p : Int, p = xs[j] := ⟨_, rfl⟩
  have HPP : Hid (p = xs[j]) := hp
  have HAt : Hid (∀ w2, w2 = w → Calls Try.prog 19 #[.pointer (some ⟨s, 0, none⟩), .int .i64 j] w2 fun x w' => x = .returned (.tuple #[.int .i64 p, .int .i64 0]) ∧ w2 = w') := fun w2 e2 => by
    subst e2
    rw [hp]
    exact at_in B' s u xs j _ HS.out HIN.out HJ.out
  have HBd : Hid (∀ w2, Calls Try.prog 68 #[.int .u32 z, .int .i64 p] w2 fun x w' => x = .returned (.int .u32 ((e.R / 2048 * xs[j].toNat : Nat) : Int)) ∧ w2 = w') := fun w2 => by
    have := bound_any z p w2 HUz.out (by rw [hp]; exact HP.out)
    rw [hp, HBN.out] at this
    rw [hp]
    exact this
  clear hp hI
  go_enter Try.func43, Try.ntmps43
  go_wp2_with fail
  refine (HAt.out _ rfl).mono ?_
  rintro x w1 ⟨rfl, rfl⟩
  go_wp2_with fail
  refine (HBd.out _).mono ?_
  rintro x w1 ⟨rfl, rfl⟩
  generalize hbv : e.R / 2048 * xs[j].toNat = bb at *
  have HBV : Hid (e.R / 2048 * xs[j].toNat = bb) := hbv
  have b1 : (65536 : Int) ≤ (bb : Int) := by have := HBB.out; omega
  have b2 : (bb : Int) ≤ z := by have := HBB.out; have := HZ.out; omega
  clear hbv HAt HBd
  obtain ⟨hS4, hC4⟩ := HE.out.setR bb (bb : Int) rfl
  have HS4 : Hid (Enc (w.setCell ⟨a, 4, none⟩ (.int .u32 (bb : Int))) B a v ⟨e.L, bb, e.k⟩) := ⟨l, hS4, HIs.out.less (by have := HBB.out; omega)⟩
  have HC4 : Hid (Chg (Foot a v) w (w.setCell ⟨a, 4, none⟩ (.int .u32 (bb : Int)))) := hC4.mono (fun _ e => .inl (.inl e))
  clear hS4 hC4
  go_wp2_with fail
  refine (widen_any B a v ⟨e.L, bb, e.k⟩ _ HS4.out HBB.out.1 (by have := HBB.out; have := HI.out; show bb ≤ _; omega) HK.out (by rw [set_size]; exact HB0.out)).mono ?_
  rintro x w2 ⟨rfl, v', hR, hC, hM⟩
  have HC2 : Hid (Chg (Foot a v) w w2) := HC4.out.trans hC (fun _ e => .inl e)
  have HM2 : Hid (Moved w v v') := fun g e => by
    rcases hM g e with e | e
    · exact .inl e
    · rw [set_size] at e; exact .inr e
  have HR : Hid (Enc w2 B a v' (coded e xs[j] 0)) := by
    show Enc _ _ _ _ _
    unfold coded
    rw [HBV.out]
    show Enc _ _ _ _ (Rc.cut e bb false)
    exact hR
  have hne : ∀ {W : World} {v2 : Value} {l2 : Rc.Lo} {R2 : Nat}, En W B a v2 l2 R2 → St W B' s u xs → ∀ z, Foot a v2 z → z ≠ s ∧ u.ownBlock ≠ some z := fun hE hS z f => by
    rcases f with rfl | f
    · refine ⟨fun e => ?_, fun e => ?_⟩
      · have h1 := hE.blk
        rw [e] at h1
        exact ty_ne h1 hS.blk (by decide)
      · obtain ⟨cur, hcur⟩ := owns_blk hS.own e
        exact ty_ne hE.blk hcur (by decide)
    · obtain ⟨c1, h1⟩ := owns_blk hE.own f
      refine ⟨fun e => ?_, fun e => ?_⟩
      · rw [e] at h1
        exact ty_ne h1 hS.blk (by decide)
      · obtain ⟨cur, hcur⟩ := owns_blk hS.own e
        exact ty_ne h1 hcur (by decide)
  have HS2 : Hid (St w2 B' s u xs) := HS.out.keep HC2.out (fun f => (hne HE.out HS.out _ f).1 rfl) (fun g e f => (hne HE.out HS.out _ f).2 e)
  clear hR hC hM hne k4 HE HS f4 HS4 HC4
  go_wp2_with fail
  refine (turn_in B' s u xs j 0 _ HS2.out HIN.out HJ.out).mono ?_
  rintro x w3 ⟨rfl, h3, c3⟩
  have HR3 : Hid (Enc w3 B a v' (coded e xs[j] 0)) := by
    obtain ⟨l3, hE3, hI3⟩ := HR.out
    refine ⟨l3, hE3.keep c3 (fun f => ?_) (fun g e f => ?_), hI3⟩
    · obtain ⟨cur, hcur⟩ := owns_blk HS2.out.own f
      exact ty_ne hE3.blk hcur (by decide)
    · obtain ⟨c1, h1⟩ := owns_blk hE3.own e
      obtain ⟨c2, h2⟩ := owns_blk HS2.out.own f
      exact ty_ne h1 h2 (by decide)
  have H3 : Hid (St w3 B' s u (xs.set j (Prob.nx xs[j] 0))) := h3
  have HC3 : Hid (Chg (fun z => Foot a v z ∨ u.ownBlock = some z) w w3) := (HC2.out.mono (T := fun z => Foot a v z ∨ u.ownBlock = some z) (fun _ e => .inl (.inl e))).trans c3 (fun _ e => .inl (.inr e))
  clear h3 c3 HR HC2 HS2
  go_wp2
  go_ret
  exact ⟨rfl, v', HR3.out, H3.out, HC3.out, HM2.out⟩

set_option maxHeartbeats 2000000 in
set_option maxRecDepth 100000 in
theorem bit_one (B B' a s : Nat) (u v : Value) (xs : List Int) (j : Nat) (t : Int) (e : Rc.E) (w : World) (hS : St w B' s u xs) (hI : In31 xs) (hj : j < xs.length) (h : Enc w B a v e) (hO : Rc.Ok e) (hk : e.k + 1 ≤ 140737488355328) (hB : B ≤ w.heap.size) (ht : t ≠ 0) :
    Calls Try.prog 43 #[.pointer (some ⟨a, 0, none⟩), .pointer (some ⟨s, 0, none⟩), .int .i64 j, .int .i64 t] w fun x w' => x = .returned (.int .i64 0) ∧ ∃ v', Enc w' B a v' (coded e xs[j] t) ∧ St w' B' s u (xs.set j (Prob.nx xs[j] t)) ∧ Chg (fun z => Foot a v z ∨ u.ownBlock = some z) w w' ∧ Moved w v v' := by
  have hp := hI.at j hj
  have hbn := bo_nat (R := e.R) hp.1 hp.2
  have HBB : Hid (65536 ≤ e.R / 2048 * xs[j].toNat ∧ e.R / 2048 * xs[j].toNat + 65536 ≤ e.R) := Rc.bound_in (R := e.R) (p := xs[j].toNat) hO.lo (by omega) (by omega)
  have hi := hO.hi
  have HI : Hid (e.R ≤ 4294967295) := hi
  obtain ⟨l, hE, hIs⟩ := h
  have k4 := (cells5 hE.blk).2.2.2.2.1
  have f4 := (cells5 hE.blk).2.2.2.2.2 4
  have HE : Hid (En w B a v l e.R) := hE
  have HIs : Hid (Rc.Is l e) := hIs
  have HS : Hid (St w B' s u xs) := hS
  have HP : Hid (I64 xs[j]) := (show I64 _ from ⟨by omega, by omega⟩)
  have HO : Hid (Rc.Ok e) := hO
  have HK : Hid (e.k + 1 ≤ 140737488355328) := hk
  have HB0 : Hid (B ≤ w.heap.size) := hB
  have HJ : Hid (j < xs.length) := hj
  have HIN : Hid (In xs) := hI.inn
  obtain ⟨z, hz⟩ : ∃ z : Int, z = (e.R : Int) := ⟨_, rfl⟩
  have HZ : Hid (z = (e.R : Int)) := hz
  have HBN : Hid (Prob.bo z xs[j] = ((e.R / 2048 * xs[j].toNat : Nat) : Int)) := by show _ = _; rw [hz]; exact hbn
  have HUz : Hid (U32 z) := by show U32 z; rw [hz]; exact ⟨by omega, by omega⟩
  have z1 : 0 ≤ z := by omega
  have z2 : z ≤ 4294967295 := by omega
  rw [← hz] at k4
  clear hE hIs hS hbn hp hi hO hk hB hz
  obtain ⟨p, hp⟩ : ∃ p : Int, p = xs[j] := ⟨_, rfl⟩
  have HPP : Hid (p = xs[j]) := hp
  have HAt : Hid (∀ w2, w2 = w → Calls Try.prog 19 #[.pointer (some ⟨s, 0, none⟩), .int .i64 j] w2 fun x w' => x = .returned (.tuple #[.int .i64 p, .int .i64 0]) ∧ w2 = w') := fun w2 e2 => by
    subst e2
    rw [hp]
    exact at_in B' s u xs j _ HS.out HIN.out HJ.out
  have HBd : Hid (∀ w2, Calls Try.prog 68 #[.int .u32 z, .int .i64 p] w2 fun x w' => x = .returned (.int .u32 ((e.R / 2048 * xs[j].toNat : Nat) : Int)) ∧ w2 = w') := fun w2 => by
    have := bound_any z p w2 HUz.out (by rw [hp]; exact HP.out)
    rw [hp, HBN.out] at this
    rw [hp]
    exact this
  clear hp hI
  have ht2 : decide (t = 0) = false := by simp; exact ht
  go_enter Try.func43, Try.ntmps43
  go_wp2_with fail
  refine (HAt.out _ rfl).mono ?_
  rintro x w1 ⟨rfl, rfl⟩
  go_wp2_with fail
  refine (HBd.out _).mono ?_
  rintro x w1 ⟨rfl, rfl⟩
  generalize hbv : e.R / 2048 * xs[j].toNat = bb at *
  have HBV : Hid (e.R / 2048 * xs[j].toNat = bb) := hbv
  have b1 : (65536 : Int) ≤ (bb : Int) := by have := HBB.out; omega
  have b2 : (bb : Int) ≤ z := by have := HBB.out; have := HZ.out; omega
  clear hbv HAt HBd
  have bb2 : (bb : Int) ≤ 4294967295 := by omega
  go_wp2_with fail
  refine (adde_any B a v e bb (e.R - bb) e.R _ l HE.out HIs.out (by omega) (by have := HBB.out; omega) (by have := HBB.out; omega) HI.out HK.out HB0.out).mono ?_
  rintro x w1 ⟨rfl, v1, l1, hE1, hI1, hC1, hM1⟩
  have q4 : w1.cell? ⟨a, 4, none⟩ = some (.int .u32 z) := by have hz := HZ.out; rw [hz]; exact (cells5 hE1.blk).2.2.2.2.1
  have g4 := (cells5 hE1.blk).2.2.2.2.2 4
  obtain ⟨hS4, hC4⟩ := hE1.setR (e.R - bb) (z - (bb : Int)) (by have := HBB.out; have := HZ.out; omega)
  have HS4 : Hid (Enc (w1.setCell ⟨a, 4, none⟩ (.int .u32 (z - (bb : Int)))) B a v1 ⟨e.L + bb, e.R - bb, e.k⟩) := ⟨l1, hS4, hI1⟩
  have HC4 : Hid (Chg (Foot a v) w (w1.setCell ⟨a, 4, none⟩ (.int .u32 (z - (bb : Int))))) := hC1.trans hC4 (fun _ e => .inl (.inl e))
  have HM1 : Hid (Moved w v v1) := hM1
  have HS1 : Hid (w.heap.size ≤ w1.heap.size) := hC1.size
  clear hS4 hC4 hE1 hI1 hC1 hM1
  go_wp2_with fail
  refine (widen_any B a v1 ⟨e.L + bb, e.R - bb, e.k⟩ _ HS4.out (by have := HBB.out; show _ ≤ e.R - bb; omega) (by have := HI.out; show e.R - bb ≤ _; omega) HK.out (by rw [set_size]; exact Nat.le_trans HB0.out HS1.out)).mono ?_
  rintro x w2 ⟨rfl, v', hR, hC, hM⟩
  have HC2 : Hid (Chg (Foot a v) w w2) := HC4.out.trans hC (fun i e => HM1.out.foot a i e)
  have HM2 : Hid (Moved w v v') := HM1.out.trans HS1.out (fun g e => by
    rcases hM g e with e | e
    · exact .inl e
    · rw [set_size] at e; exact .inr e)
  have HR : Hid (Enc w2 B a v' (coded e xs[j] t)) := by
    show Enc _ _ _ _ _
    unfold coded
    rw [HBV.out]
    rw [show decide (t ≠ 0) = true from decide_eq_true ht]
    show Enc _ _ _ _ (Rc.cut e bb true)
    exact hR
  have hne : ∀ {W : World} {v2 : Value} {l2 : Rc.Lo} {R2 : Nat}, En W B a v2 l2 R2 → St W B' s u xs → ∀ z, Foot a v2 z → z ≠ s ∧ u.ownBlock ≠ some z := fun hE hS z f => by
    rcases f with rfl | f
    · refine ⟨fun e => ?_, fun e => ?_⟩
      · have h1 := hE.blk
        rw [e] at h1
        exact ty_ne h1 hS.blk (by decide)
      · obtain ⟨cur, hcur⟩ := owns_blk hS.own e
        exact ty_ne hE.blk hcur (by decide)
    · obtain ⟨c1, h1⟩ := owns_blk hE.own f
      refine ⟨fun e => ?_, fun e => ?_⟩
      · rw [e] at h1
        exact ty_ne h1 hS.blk (by decide)
      · obtain ⟨cur, hcur⟩ := owns_blk hS.own e
        exact ty_ne h1 hcur (by decide)
  have HS2 : Hid (St w2 B' s u xs) := HS.out.keep HC2.out (fun f => (hne HE.out HS.out _ f).1 rfl) (fun g e f => (hne HE.out HS.out _ f).2 e)
  clear hR hC hM hne k4 HE HS f4 HS4 HC4 q4 g4
  go_wp2_with fail
  refine (turn_in B' s u xs j t _ HS2.out HIN.out HJ.out).mono ?_
  rintro x w3 ⟨rfl, h3, c3⟩
  have HR3 : Hid (Enc w3 B a v' (coded e xs[j] t)) := by
    obtain ⟨l3, hE3, hI3⟩ := HR.out
    refine ⟨l3, hE3.keep c3 (fun f => ?_) (fun g e f => ?_), hI3⟩
    · obtain ⟨cur, hcur⟩ := owns_blk HS2.out.own f
      exact ty_ne hE3.blk hcur (by decide)
    · obtain ⟨c1, h1⟩ := owns_blk hE3.own e
      obtain ⟨c2, h2⟩ := owns_blk HS2.out.own f
      exact ty_ne h1 h2 (by decide)
  have H3 : Hid (St w3 B' s u (xs.set j (Prob.nx xs[j] t))) := h3
  have HC3 : Hid (Chg (fun z => Foot a v z ∨ u.ownBlock = some z) w w3) := (HC2.out.mono (T := fun z => Foot a v z ∨ u.ownBlock = some z) (fun _ e => .inl (.inl e))).trans c3 (fun _ e => .inl (.inr e))
  clear h3 c3 HR HC2 HS2
  go_wp2
  go_ret
  exact ⟨rfl, v', HR3.out, H3.out, HC3.out, HM2.out⟩

theorem bit_in (B B' a s : Nat) (u v : Value) (xs : List Int) (j : Nat) (t : Int) (e : Rc.E) (w : World) (hS : St w B' s u xs) (hI : In31 xs) (hj : j < xs.length) (h : Enc w B a v e) (hO : Rc.Ok e) (hk : e.k + 1 ≤ 140737488355328) (hB : B ≤ w.heap.size) :
    Calls Try.prog 43 #[.pointer (some ⟨a, 0, none⟩), .pointer (some ⟨s, 0, none⟩), .int .i64 j, .int .i64 t] w fun x w' => x = .returned (.int .i64 0) ∧ ∃ v', Enc w' B a v' (coded e xs[j] t) ∧ St w' B' s u (xs.set j (Prob.nx xs[j] t)) ∧ Chg (fun z => Foot a v z ∨ u.ownBlock = some z) w w' ∧ Moved w v v' := by
  by_cases ht : t = 0
  · subst ht
    exact bit_zero B B' a s u v xs j e w hS hI hj h hO hk hB
  · exact bit_one B B' a s u v xs j t e w hS hI hj h hO hk hB ht

theorem bit_out (B' s : Nat) (u rv : Value) (xs : List Int) (i : Int) (t : Value) (w : World) (hS : St w B' s u xs) (hi : i < 0 ∨ (xs.length : Int) ≤ i) :
    Calls Try.prog 43 #[rv, .pointer (some ⟨s, 0, none⟩), .int .i64 i, t] w fun x w' => x = .returned (.int .i64 7) ∧ w = w' := by
  go_enter Try.func43, Try.ntmps43
  go_wp2_with fail
  refine (at_out B' s u xs i _ hS hi).mono ?_
  rintro x w1 ⟨rfl, rfl⟩
  go_wp2
  go_ret
  exact ⟨rfl, rfl⟩
end Go.Proofs.Ytibgjpifmpljkaa

/- The contract of the document's Direct; of no statement by itself. -/
namespace Go.Proofs.Ytibgjpifmpljkaa
open Go.RowKit
set_option linter.unusedVariables false

theorem redirect_out (r : Value) (x : Value) (n : Int) (w : World) (hn : n < 0 ∨ 32 < n) : Calls Try.prog 59 #[r, x, .int .i64 n] w fun e w' => e = .returned (.int .i64 7) ∧ w = w' := by
  by_cases h0 : n < 0
  · go_enter Try.func59, Try.ntmps59
    go_wp2
    go_ret
    exact ⟨rfl, rfl⟩
  · have h1 : 32 < n := by omega
    have hd : decide (n < 0) = false := by simp; omega
    go_enter Try.func59, Try.ntmps59
    go_wp2
    go_ret
    exact ⟨rfl, rfl⟩

theorem bit_nat (x j : Nat) : ((x : Int) / 2 ^ j).tmod 2 = ((x / 2 ^ j % 2 : Nat) : Int) := by
  have e : ((x : Int) / 2 ^ j) = ((x / 2 ^ j : Nat) : Int) := by simp
  rw [e]
  generalize x / 2 ^ j = q
  rw [Int.tmod_eq_emod_of_nonneg (Int.natCast_nonneg _)]
  omega

/-- The lowest m bits of x, the highest first. -/
def direct (x : Nat) : Nat → Rc.E → Rc.E
  | 0, e => e
  | m + 1, e => direct x m (Rc.half e (decide (x / 2 ^ m % 2 = 1)))

set_option maxHeartbeats 2000000 in
set_option maxRecDepth 100000 in
theorem redirect_in (B r : Nat) (v : Value) (e : Rc.E) (x n : Nat) (w0 : World) (h : Re w0 B r v (Rc.by_ e) e.R e.k) (hO : Rc.Ok e) (hx : x ≤ 4294967295) (hn : n ≤ 32) (hk : e.k + 32 ≤ 70368744177664) (hB : B ≤ w0.heap.size) :
    Calls Try.prog 59 #[.pointer (some ⟨r, 0, none⟩), .int .u32 (x : Int), .int .i64 (n : Int)] w0 fun y w' => y = .returned (.int .i64 0) ∧ ∃ v', Re w' B r v' (Rc.by_ (direct x n e)) (direct x n e).R (direct x n e).k ∧ Chg (Foot r v) w0 w' ∧ Moved w0 v v' := by
  have hd : decide ((n : Int) < 0) = false := by simp
  have hd32 : decide ((32 : Int) < (n : Int)) = false := by simp; omega
  have HH : Hid (Re w0 B r v (Rc.by_ e) e.R e.k) := h
  clear h
  go_enter Try.func59, Try.ntmps59
  go_wp2_with fail
  go_loopw [7] (fun iv wr => ∃ (m : Nat) (f : Rc.E) (v' : Value), m ≤ n ∧ iv = .int .i64 ((m : Int) - 1) ∧ Re wr B r v' (Rc.by_ f) f.R f.k ∧ Rc.Ok f ∧ f.k + m ≤ e.k + n ∧ Hid (direct x m f = direct x n e) ∧ Chg (Foot r v) w0 wr ∧ Moved w0 v v') (fun iv _ => (intOf iv + 1).toNat)
  case atStart => exact ⟨n, e, v, Nat.le_refl _, rfl, HH.out, hO, Nat.le_refl _, rfl, Chg.refl _ _, Moved.refl _ _⟩
  case round =>
    clear HH
    obtain ⟨m, f, v', hm, rfl, hR, hOf, hkf, HD, hC, hM⟩ := hrel
    cases m with
    | zero =>
      have e1 : f = direct x n e := HD.out
      rw [e1] at hR
      have HR : Hid (Re wr B r v' (Rc.by_ (direct x n e)) (direct x n e).R (direct x n e).k) := hR
      clear hR e1 HD hOf hkf
      go_wp2
      go_ret
      exact ⟨rfl, v', HR.out, hC, hM⟩
    | succ j =>
      have k1 := (cells3 hR.blk).2.1
      have f1 := (cells3 hR.blk).2.2.2 1
      have hlo := hOf.lo
      have hhi := hOf.hi
      have HR : Hid (Re wr B r v' (Rc.by_ f) f.R f.k) := hR
      have HC : Hid (Chg (Foot r v) w0 wr) := hC
      have HM : Hid (Moved w0 v v') := hM
      have hs := hC.size
      clear hR hC hM
      have hT : ((x : Int) / 2 ^ j).tmod 2 = ((x / 2 ^ j % 2 : Nat) : Int) := bit_nat x j
      have hj31 : j < 32 := by omega
      by_cases hb : x / 2 ^ j % 2 = 1
      · have hT1 : ((x : Int) / 2 ^ j).tmod 2 = 1 := by rw [hT, hb]; rfl
        have HD2 : Hid (direct x j (Rc.half f true) = direct x n e) := by
          have h1 : direct x j (Rc.half f (decide (x / 2 ^ j % 2 = 1))) = direct x n e := HD.out
          rw [show decide (x / 2 ^ j % 2 = 1) = true from decide_eq_true hb] at h1
          exact h1
        obtain ⟨hS, hCs⟩ := HR.out.setR (Q := f.R / 2) ((f.R : Int) / 2) (by omega)
        have HS : Hid (Re (wr.setCell ⟨r, 1, none⟩ (.int .u32 ((f.R : Int) / 2))) B r v' (Rc.by_ f) (f.R / 2) f.k) := hS
        have q1 := (cells3 hS.blk).2.1
        have HCs : Hid (Chg (fun z => z = r) wr (wr.setCell ⟨r, 1, none⟩ (.int .u32 ((f.R : Int) / 2)))) := hCs
        have HA : Hid (∀ w2, w2 = wr.setCell ⟨r, 1, none⟩ (.int .u32 ((f.R : Int) / 2)) → Calls Try.prog 87 #[.pointer (some ⟨r, 0, none⟩), .int .u32 ((f.R : Int) / 2)] w2 fun y w' => y = .returned (.tuple #[]) ∧ Re w' B r v' (Rc.dg (f.k + 5) (f.L + f.R / 2)) (f.R / 2) f.k ∧ Chg (fun z => v'.ownBlock = some z) w2 w') := fun w2 e2 => by
          subst e2
          have hlen : (Rc.by_ f).length = f.k + 5 := Rc.dg_len _ _
          have hval : Rc.val (Rc.by_ f) = f.L := Rc.val_dg _ _ hOf.lt
          have hfit : f.R / 2 + Rc.val (Rc.by_ f) < 256 ^ (Rc.by_ f).length := by
            rw [hval, hlen]
            have h3 := hOf.sum
            have e1 : 256 ^ (f.k + 5) = 256 ^ f.k * 1099511627776 := by rw [Nat.pow_add]
            have pos : 0 < 256 ^ f.k := Nat.pow_pos (by omega)
            omega
          have := adds_any B r v' (Rc.by_ f) (f.R / 2) f.k (f.R / 2) _ HS.out (by omega) (by rw [hlen]; omega) (by rw [hlen]; omega) hfit
          rw [hlen, hval] at this
          exact this
        clear hS hCs hb hT HD
        go_wp2_with fail
        refine (HA.out _ rfl).mono ?_
        rintro y w3 ⟨rfl, h3, c3⟩
        have H3 : Hid (Re w3 B r v' (Rc.dg (f.k + 5) (f.L + f.R / 2)) (f.R / 2) f.k) := h3
        have hs3 : wr.heap.size ≤ w3.heap.size := by have := c3.size; rw [set_size] at this; exact this
        have HC3 : Hid (Chg (Foot r v') wr w3) := (HCs.out.mono (T := Foot r v') (fun _ e => .inl (.inl e))).trans c3 (fun _ e => .inl (.inr e))
        clear h3 c3 HA HS HCs q1 k1 f1 hT1
        go_wp2_with fail
        refine (widens_any B r v' ⟨f.L + f.R / 2, f.R / 2, f.k⟩ _ H3.out (by show _ ≤ f.R / 2; omega) (by show f.R / 2 ≤ _; omega) (by show f.k ≤ _; omega) (by omega)).mono ?_
        rintro y w4 ⟨rfl, v4, h4, c4, m4⟩
        have H4 : Hid (Re w4 B r v4 (Rc.by_ (Rc.half f true)) (Rc.half f true).R (Rc.half f true).k) := h4
        have HM4 : Hid (Moved w0 v v4) := fun g e => by
          rcases m4 g e with e | e
          · exact HM.out g e
          · exact .inr (by omega)
        have HC4 : Hid (Chg (Foot r v) w0 w4) := HC.out.trans (HC3.out.trans c4 (fun _ e => .inl e)) (fun i e => HM.out.foot r i e)
        have hk2 := Rc.half_k f true
        clear h4 c4 m4 H3 HC3 HC HM
        go_wp2
        go_roundw
        case rel => exact ⟨j, Rc.half f true, v4, by omega, by go_num, H4.out, Rc.half_ok hOf true, by split at hk2 <;> omega, HD2.out, HC4.out, HM4.out⟩
        case measure => simp [intOf]
      · have hb0 : x / 2 ^ j % 2 = 0 := by omega
        have hT1 : ((x : Int) / 2 ^ j).tmod 2 = 0 := by rw [hT, hb0]; rfl
        have HD2 : Hid (direct x j (Rc.half f false) = direct x n e) := by
          have h1 : direct x j (Rc.half f (decide (x / 2 ^ j % 2 = 1))) = direct x n e := HD.out
          rw [show decide (x / 2 ^ j % 2 = 1) = false from decide_eq_false hb] at h1
          exact h1
        obtain ⟨hS, hCs⟩ := HR.out.setR (Q := f.R / 2) ((f.R : Int) / 2) (by omega)
        have HS : Hid (Re (wr.setCell ⟨r, 1, none⟩ (.int .u32 ((f.R : Int) / 2))) B r v' (Rc.dg (f.k + 5) f.L) (f.R / 2) f.k) := hS
        have HCs : Hid (Chg (fun z => z = r) wr (wr.setCell ⟨r, 1, none⟩ (.int .u32 ((f.R : Int) / 2)))) := hCs
        clear hS hCs hb hb0 hT HD
        go_wp2_with fail
        refine (widens_any B r v' ⟨f.L, f.R / 2, f.k⟩ _ HS.out (by show _ ≤ f.R / 2; omega) (by show f.R / 2 ≤ _; omega) (by show f.k ≤ _; omega) (by rw [set_size]; omega)).mono ?_
        rintro y w4 ⟨rfl, v4, h4, c4, m4⟩
        have H4 : Hid (Re w4 B r v4 (Rc.by_ (Rc.half f false)) (Rc.half f false).R (Rc.half f false).k) := h4
        have HM4 : Hid (Moved w0 v v4) := fun g e => by
          rcases m4 g e with e | e
          · exact HM.out g e
          · rw [set_size] at e; exact .inr (by omega)
        have HC4 : Hid (Chg (Foot r v) w0 w4) := HC.out.trans ((HCs.out.mono (T := Foot r v') (fun _ e => .inl (.inl e))).trans c4 (fun _ e => .inl e)) (fun i e => HM.out.foot r i e)
        have hk2 := Rc.half_k f false
        clear h4 c4 m4 HS HCs HC HM k1 f1 hT1
        go_wp2
        go_roundw
        case rel => exact ⟨j, Rc.half f false, v4, by omega, by go_num, H4.out, Rc.half_ok hOf false, by split at hk2 <;> omega, HD2.out, HC4.out, HM4.out⟩
        case measure => simp [intOf]
end Go.Proofs.Ytibgjpifmpljkaa

/- The contracts of the program's Direct; of no statement by themselves. -/
namespace Go.Proofs.Ytibgjpifmpljkaa
open Go.RowKit
set_option linter.unusedVariables false

theorem direct_out (r : Value) (x : Value) (n : Int) (w : World) (hn : n < 0 ∨ 32 < n) : Calls Try.prog 50 #[r, x, .int .i64 n] w fun e w' => e = .returned (.int .i64 7) ∧ w = w' := by
  by_cases h0 : n < 0
  · go_enter Try.func50, Try.ntmps50
    go_wp2
    go_ret
    exact ⟨rfl, rfl⟩
  · have h1 : 32 < n := by omega
    have hd : decide (n < 0) = false := by simp; omega
    go_enter Try.func50, Try.ntmps50
    go_wp2
    go_ret
    exact ⟨rfl, rfl⟩

theorem bit_at (m i : Nat) (hm : m < 4294967296) : bits .and .u32 ((m : Int) / 2 ^ i) 1 = ((m / 2 ^ i % 2 : Nat) : Int) := by
  have e : ((m : Int) / 2 ^ i) = ((m / 2 ^ i : Nat) : Int) := by simp
  rw [e, show (1 : Int) = ((1 : Nat) : Int) from rfl, u32_and_nat _ 1 (Nat.lt_of_le_of_lt (Nat.div_le_self _ _) hm) (by decide)]
  congr 1
  exact Nat.and_one_is_mod _
theorem half_k_le (e : Rc.E) (one : Bool) : e.k ≤ (Rc.half e one).k ∧ (Rc.half e one).k ≤ e.k + 1 := by
  rw [Rc.half_k]
  split <;> omega
theorem direct_k (x : Nat) : ∀ (m : Nat) (e : Rc.E), e.k ≤ (direct x m e).k
  | 0, e => Nat.le_refl _
  | m + 1, e => Nat.le_trans (half_k_le e _).1 (direct_k x m _)
theorem direct_k_le (x : Nat) : ∀ (m : Nat) (e : Rc.E), (direct x m e).k ≤ e.k + m
  | 0, e => Nat.le_refl _
  | m + 1, e => by
    have h1 := (half_k_le e (decide (x / 2 ^ m % 2 = 1))).2
    have h2 := direct_k_le x m (Rc.half e (decide (x / 2 ^ m % 2 = 1)))
    show (direct x m _).k ≤ _
    omega
theorem direct_ok (x : Nat) : ∀ (m : Nat) {e : Rc.E}, Rc.Ok e → Rc.Ok (direct x m e)
  | 0, _, h => h
  | m + 1, _, h => direct_ok x m (Rc.half_ok h _)

theorem half_is {l : Rc.Lo} {f : Rc.E} (h : Rc.Is l f) : Rc.Is l ⟨f.L, f.R / 2, f.k⟩ := h.less (by omega)

set_option maxHeartbeats 2000000 in
set_option maxRecDepth 100000 in
theorem direct_in (B a : Nat) (v : Value) (e : Rc.E) (x n : Nat) (w0 : World) (h : Enc w0 B a v e) (hO : Rc.Ok e) (hx : x ≤ 4294967295) (hn : n ≤ 32) (hk : (direct x n e).k + 1 ≤ 140737488355328) (hB : B ≤ w0.heap.size) :
    Calls Try.prog 50 #[.pointer (some ⟨a, 0, none⟩), .int .u32 (x : Int), .int .i64 (n : Int)] w0 fun y w' => y = .returned (.int .i64 0) ∧ ∃ v', Enc w' B a v' (direct x n e) ∧ Chg (Foot a v) w0 w' ∧ Moved w0 v v' := by
  have hd : decide ((n : Int) < 0) = false := by simp
  have hd32 : decide ((32 : Int) < (n : Int)) = false := by simp; omega
  have HH : Hid (Enc w0 B a v e) := h
  have HKK : Hid ((direct x n e).k + 1 ≤ 140737488355328) := hk
  clear h hk
  go_enter Try.func50, Try.ntmps50
  go_wp2_with fail
  go_loopw [7] (fun iv wr => ∃ (m : Nat) (f : Rc.E) (v' : Value), m ≤ n ∧ iv = .int .i64 ((m : Int) - 1) ∧ Enc wr B a v' f ∧ Rc.Ok f ∧ Hid (direct x m f = direct x n e) ∧ Chg (Foot a v) w0 wr ∧ Moved w0 v v') (fun iv _ => (intOf iv + 1).toNat)
  case atStart => exact ⟨n, e, v, Nat.le_refl _, rfl, HH.out, hO, rfl, Chg.refl _ _, Moved.refl _ _⟩
  case round =>
    clear HH
    obtain ⟨m, f, v', hm, rfl, hR, hOf, HD, hC, hM⟩ := hrel
    cases m with
    | zero =>
      have e1 : f = direct x n e := HD.out
      rw [e1] at hR
      have HR : Hid (Enc wr B a v' (direct x n e)) := hR
      clear hR e1 HD hOf
      go_wp2
      go_ret
      exact ⟨rfl, v', HR.out, hC, hM⟩
    | succ j =>
      have hkf : f.k ≤ (direct x n e).k := by rw [← HD.out]; exact direct_k x (j + 1) f
      have HKF : Hid (f.k + 1 ≤ 140737488355328) := by have := HKK.out; show f.k + 1 ≤ _; omega
      obtain ⟨l, hE, hI⟩ := hR
      have k4 := (cells5 hE.blk).2.2.2.2.1
      have f4 := (cells5 hE.blk).2.2.2.2.2 4
      have hlo := hOf.lo
      have hhi := hOf.hi
      have HLO : Hid (16777216 ≤ f.R ∧ f.R ≤ 4294967295) := ⟨hlo, hhi⟩
      obtain ⟨q, hq⟩ : ∃ q : Int, q = (f.R : Int) / 2 := ⟨_, rfl⟩
      obtain ⟨z, hz⟩ : ∃ z : Int, z = (f.R : Int) := ⟨_, rfl⟩
      have HQ : Hid (q = ((f.R / 2 : Nat) : Int)) := by show _ = _; omega
      have hzq : z / 2 = q := by rw [hz, hq]
      have z1 : 16777216 ≤ z := by omega
      have z2 : z ≤ 4294967295 := by omega
      have q1 : 0 ≤ q := by omega
      have q2 : q ≤ 4294967295 := by omega
      rw [← hz] at k4
      obtain ⟨hS, hCs⟩ := hE.setR (f.R / 2) q HQ.out
      have HS : Hid (En (wr.setCell ⟨a, 4, none⟩ (.int .u32 q)) B a v' l (f.R / 2)) := hS
      have q4 : (wr.setCell ⟨a, 4, none⟩ (.int .u32 q)).cell? ⟨a, 4, none⟩ = some (.int .u32 q) := by
        have h3 := (cells5 hS.blk).2.2.2.2.1
        rw [← HQ.out] at h3
        exact h3
      have HI : Hid (Rc.Is l f) := hI
      have HCs : Hid (Chg (Foot a v') wr (wr.setCell ⟨a, 4, none⟩ (.int .u32 q))) := hCs.mono (fun _ e => .inl (.inl e))
      have HC : Hid (Chg (Foot a v) w0 wr) := hC
      have HM : Hid (Moved w0 v v') := hM
      have HBW : Hid (B ≤ wr.heap.size) := Nat.le_trans hB hC.size
      have HOF : Hid (Rc.Ok f) := hOf
      clear hC hM hE hI hS hCs hlo hhi hz hq hOf hkf
      have hT := bit_at x j (by omega)
      have hj31 : j < 32 := by omega
      by_cases hb : x / 2 ^ j % 2 = 1
      · have hT1 : bits .and .u32 ((x : Int) / 2 ^ j) 1 = 1 := by rw [hT, hb]; rfl
        have HD2 : Hid (direct x j (Rc.half f true) = direct x n e) := by
          have h1 : direct x j (Rc.half f (decide (x / 2 ^ j % 2 = 1))) = direct x n e := HD.out
          rw [show decide (x / 2 ^ j % 2 = 1) = true from decide_eq_true hb] at h1
          exact h1
        clear hb hT HD
        have ej : ((j + 1 : Nat) : Int) - 1 = (j : Int) := by omega
        rw [ej]
        clear ej
        go_wp2_with fail
        simp only [hzq]
        refine wp_region_last (mk := fun u => #[_, _, _, _, _, _, _, _, _, _, _, _, _, _, _, _, _, _, _, _, _, _, _, _, _, _, _, _, _, _, _, _, u 32, u 33, u 34, u 35, u 36, u 37, u 38, _, _, _]) (F := fun slot vv ww => (look [(32, .val (.pointer (some ⟨a, 0, none⟩))), (33, .val (.pointer (some ⟨a, 0, none⟩))), (34, .val (.pointer (some ⟨a, 0, none⟩))), (35, .val (.pointer (some ⟨a, 0, none⟩))), (36, .val (.pointer (some ⟨a, 0, none⟩))), (37, .val (.pointer (some ⟨a, 4, none⟩))), (38, .val (.int .u32 q))] slot).holds vv ww) (fun slot => match slot with | 32 => u32 | 33 => u33 | 34 => u34 | 35 => u35 | 36 => u36 | 37 => u37 | 38 => u38 | _ => undef) rfl (by kernel_rfl) 7 _ rfl rfl (by kernel_rfl) ?_ (fun _ v w w' hc h => Fact.stays _ v w w' hc h) ?_ ?_
        · repeat (refine ⟨⟨_, rfl, fun _ _ => rfl⟩, ?_⟩)
          exact trivial
        · refine ⟨?_, ?_, ?_, ?_, ?_, ?_, ?_, trivial⟩
          · intro u w hc hd K hK -- 32
            clear hd
            go_simp
            exact hK.out (.pointer (some ⟨a, 0, none⟩)) w (Chg.refl _ _) rfl
          · intro u w hc hd K hK -- 33
            have h32 : (Fact.val (.pointer (some ⟨a, 0, none⟩))).holds (u 32) w := hd.get 0 (by kernel_rfl)
            simp only [Fact.holds] at h32
            clear hd
            simp only [h32] at hK
            go_simp
            exact hK.out (.pointer (some ⟨a, 0, none⟩)) w (Chg.refl _ _) rfl
          · intro u w hc hd K hK -- 34
            have h33 : (Fact.val (.pointer (some ⟨a, 0, none⟩))).holds (u 33) w := hd.get 1 (by kernel_rfl)
            simp only [Fact.holds] at h33
            clear hd
            simp only [h33] at hK
            go_simp
            exact hK.out (.pointer (some ⟨a, 0, none⟩)) w (Chg.refl _ _) rfl
          · intro u w hc hd K hK -- 35
            clear hd
            go_simp
            exact hK.out (.pointer (some ⟨a, 0, none⟩)) w (Chg.refl _ _) rfl
          · intro u w hc hd K hK -- 36
            have h35 : (Fact.val (.pointer (some ⟨a, 0, none⟩))).holds (u 35) w := hd.get 3 (by kernel_rfl)
            simp only [Fact.holds] at h35
            clear hd
            simp only [h35] at hK
            go_simp
            exact hK.out (.pointer (some ⟨a, 0, none⟩)) w (Chg.refl _ _) rfl
          · intro u w hc hd K hK -- 37
            have h36 : (Fact.val (.pointer (some ⟨a, 0, none⟩))).holds (u 36) w := hd.get 4 (by kernel_rfl)
            simp only [Fact.holds] at h36
            clear hd
            simp only [h36] at hK
            go_simp
            exact hK.out (.pointer (some ⟨a, 4, none⟩)) w (Chg.refl _ _) rfl
          · intro u w hc hd K hK -- 38
            have h37 : (Fact.val (.pointer (some ⟨a, 4, none⟩))).holds (u 37) w := hd.get 5 (by kernel_rfl)
            simp only [Fact.holds] at h37
            clear hd
            simp only [h37] at hK
            have hcell := cell_chg q4 hc
            go_simp
            exact hK.out _ _ (Chg.refl _ _) rfl
        · intro u w hc hA K hK
          have e34 : u 34 = .pointer (some ⟨a, 0, none⟩) := hA.at 34 (by kernel_rfl)
          have e38 : u 38 = .int .u32 q := hA.at 38 (by kernel_rfl)
          clear hA
          go_simp
          go_at_call 69
          have hE2 := HS.out.new hc
          have hs2 := hc.size
          rw [set_size] at hs2
          have hQ := HQ.out
          rw [hQ]
          refine (adde_any B a v' f (f.R / 2) (f.R / 2) (f.R / 2) _ l hE2 HI.out (by have := HLO.out; omega) (by omega) (by have := HLO.out; omega) HLO.out.2 HKF.out (by have := HBW.out; omega)).mono ?_
          rintro y w3 ⟨rfl, v3, l3, hE3, hI3, hC3, hM3⟩
          have H3 : Hid (Enc w3 B a v3 ⟨f.L + f.R / 2, f.R / 2, f.k⟩) := ⟨l3, hE3, hI3⟩
          have HC3 : Hid (Chg (Foot a v') wr w3) := (HCs.out.trans hc (fun _ f => f.elim)).trans hC3 (fun _ e => .inl e)
          have HM3 : Hid (Moved wr v' v3) := moved_from hs2 hM3
          have HS3 : Hid (wr.heap.size ≤ w3.heap.size) := HC3.out.size
          clear hE2 hE3 hI3 hC3 hM3 hc hQ hs2
          go_simp
          refine hK.out _ _ ?_
          clear hK
          go_wp2_with fail
          refine (widen_any B a v3 ⟨f.L + f.R / 2, f.R / 2, f.k⟩ _ H3.out (by have := HLO.out; show _ ≤ f.R / 2; omega) (by have := HLO.out; show f.R / 2 ≤ _; omega) HKF.out (by have := HBW.out; have := HS3.out; omega)).mono ?_
          rintro y w4 ⟨rfl, v4, h4, c4, m4⟩
          have H4 : Hid (Enc w4 B a v4 (Rc.half f true)) := h4
          have HX : Hid (Chg (Foot a v) w0 w4 ∧ Moved w0 v v4) := by
            have s1 := foot_step HC.out HM.out HC3.out HM3.out
            exact foot_step s1.1 s1.2 c4 m4
          clear h4 c4 m4 H3 HC3 HC HM
          go_wp2
          go_roundw
          case rel => exact ⟨j, Rc.half f true, v4, by omega, by go_num, H4.out, Rc.half_ok HOF.out true, HD2.out, HX.out.1, HX.out.2⟩
          case measure => simp [intOf]
      · have hb0 : x / 2 ^ j % 2 = 0 := by omega
        have hT1 : bits .and .u32 ((x : Int) / 2 ^ j) 1 = 0 := by rw [hT, hb0]; rfl
        have HD2 : Hid (direct x j (Rc.half f false) = direct x n e) := by
          have h1 : direct x j (Rc.half f (decide (x / 2 ^ j % 2 = 1))) = direct x n e := HD.out
          rw [show decide (x / 2 ^ j % 2 = 1) = false from decide_eq_false hb] at h1
          exact h1
        have H3 : Hid (Enc (wr.setCell ⟨a, 4, none⟩ (.int .u32 q)) B a v' ⟨f.L, f.R / 2, f.k⟩) := ⟨l, HS.out, half_is HI.out⟩
        clear hb hb0 hT HD
        go_wp2_with fail
        refine (widen_any B a v' ⟨f.L, f.R / 2, f.k⟩ _ H3.out (by have := HLO.out; show _ ≤ f.R / 2; omega) (by have := HLO.out; show f.R / 2 ≤ _; omega) HKF.out (by rw [set_size]; exact HBW.out)).mono ?_
        rintro y w4 ⟨rfl, v4, h4, c4, m4⟩
        have H4 : Hid (Enc w4 B a v4 (Rc.half f false)) := h4
        have HX : Hid (Chg (Foot a v) w0 w4 ∧ Moved w0 v v4) := foot_step HC.out HM.out (HCs.out.trans c4 (fun _ e => .inl e)) (moved_from (by rw [set_size]; exact Nat.le_refl _) m4)
        clear h4 c4 m4 HS HCs HC HM H3 k4 f4 q4
        go_wp2
        go_roundw
        case rel => exact ⟨j, Rc.half f false, v4, by omega, by go_num, H4.out, Rc.half_ok HOF.out false, HD2.out, HX.out.1, HX.out.2⟩
        case measure => simp [intOf]
end Go.Proofs.Ytibgjpifmpljkaa

/- The contracts of Size and Bytes; of no statement by themselves. -/
namespace Go.Proofs.Ytibgjpifmpljkaa
open Go.RowKit
set_option linter.unusedVariables false

theorem wr64 {p : Int} (h : 0 ≤ p) (h2 : p ≤ 4611686018427387904) : IntKind.i64.wrap p = p := by simp [IntKind.wrap, IntKind.signed, IntKind.bits]; omega

set_option maxHeartbeats 1000000 in
set_option maxRecDepth 100000 in
theorem losize_any (B a : Nat) (v : Value) (s : List Nat) (d r t R : Nat) (w0 : World) (h : En w0 B a v ⟨s, d, r, t⟩ R) (hl : s.length + r ≤ 140737488355328) :
    Calls Try.prog 71 #[.pointer (some ⟨a, 0, none⟩)] w0 fun e w' => e = .returned (.int .i64 ((s.length + r + 5 : Nat) : Int)) ∧ Chg (fun _ => False) w0 w' := by
  obtain ⟨ad, cap, hv, _⟩ := own_any h.own
  have k0 : w0.cell? ⟨a, 0, none⟩ = some v := (cells5 h.blk).1
  have k2 : w0.cell? ⟨a, 2, none⟩ = some (.int .i64 (r : Int)) := (cells5 h.blk).2.2.1
  rw [hv] at k0
  replace k0 : w0.cell? ⟨a, 0, none⟩ = some (.slice ad s.length cap) := k0
  clear h hv
  generalize s.length = n at *
  go_enter Try.func71, Try.ntmps71
  go_wp2_with fail
  refine wp_region_last (mk := fun u => #[_, _, _, u 3, u 4, u 5, u 6, u 7, u 8, u 9, u 10, u 11, u 12, u 13, u 14]) (F := fun slot vv ww => (look [(3, .val (.pointer (some ⟨a, 0, none⟩))), (4, .val (.pointer (some ⟨a, 0, none⟩))), (5, .val (.pointer (some ⟨a, 0, none⟩))), (6, .val (.slice ad n cap)), (7, .val (.int .i64 ((n : Int)))), (8, .val (.int .i64 ((n : Int) + 1))), (9, .val (.pointer (some ⟨a, 0, none⟩))), (10, .val (.pointer (some ⟨a, 0, none⟩))), (11, .val (.pointer (some ⟨a, 2, none⟩))), (12, .val (.int .i64 ((r : Int)))), (13, .val (.int .i64 ((n : Int) + 1 + (r : Int)))), (14, .val (.int .i64 ((n : Int) + 1 + (r : Int) + 4)))] slot).holds vv ww) (fun _ => undef) rfl (by kernel_rfl) 12 _ rfl rfl (by kernel_rfl) ?_ (fun _ v w w' hc h => Fact.stays _ v w w' hc h) ?_ ?_
  · repeat (refine ⟨⟨_, rfl, fun _ _ => rfl⟩, ?_⟩)
    exact trivial
  · refine ⟨?_, ?_, ?_, ?_, ?_, ?_, ?_, ?_, ?_, ?_, ?_, ?_, trivial⟩
    · intro u w hc hd K hK -- 3
      clear hd
      go_simp
      exact hK.out (.pointer (some ⟨a, 0, none⟩)) w (Chg.refl _ _) rfl
    · intro u w hc hd K hK -- 4
      have h3 : (Fact.val (.pointer (some ⟨a, 0, none⟩))).holds (u 3) w := hd.get 0 (by kernel_rfl)
      simp only [Fact.holds] at h3
      clear hd
      simp only [h3] at hK
      go_simp
      exact hK.out (.pointer (some ⟨a, 0, none⟩)) w (Chg.refl _ _) rfl
    · intro u w hc hd K hK -- 5
      have h4 : (Fact.val (.pointer (some ⟨a, 0, none⟩))).holds (u 4) w := hd.get 1 (by kernel_rfl)
      simp only [Fact.holds] at h4
      clear hd
      simp only [h4] at hK
      go_simp
      exact hK.out (.pointer (some ⟨a, 0, none⟩)) w (Chg.refl _ _) rfl
    · intro u w hc hd K hK -- 6
      have h5 : (Fact.val (.pointer (some ⟨a, 0, none⟩))).holds (u 5) w := hd.get 2 (by kernel_rfl)
      simp only [Fact.holds] at h5
      clear hd
      simp only [h5] at hK
      have hcell := cell_chg k0 hc
      go_simp
      exact hK.out _ _ (Chg.refl _ _) rfl
    · intro u w hc hd K hK -- 7
      have h6 : (Fact.val (.slice ad n cap)).holds (u 6) w := hd.get 3 (by kernel_rfl)
      simp only [Fact.holds] at h6
      clear hd
      simp only [h6] at hK
      go_simp
      exact hK.out (.int .i64 ((n : Int))) w (Chg.refl _ _) rfl
    · intro u w hc hd K hK -- 8
      have h7 : (Fact.val (.int .i64 ((n : Int)))).holds (u 7) w := hd.get 4 (by kernel_rfl)
      simp only [Fact.holds] at h7
      clear hd
      simp only [h7] at hK
      go_simp
      rw [wr64 (p := (n : Int) + 1) (by omega) (by omega)]
      exact hK.out _ _ (Chg.refl _ _) rfl
    · intro u w hc hd K hK -- 9
      clear hd
      go_simp
      exact hK.out (.pointer (some ⟨a, 0, none⟩)) w (Chg.refl _ _) rfl
    · intro u w hc hd K hK -- 10
      have h9 : (Fact.val (.pointer (some ⟨a, 0, none⟩))).holds (u 9) w := hd.get 6 (by kernel_rfl)
      simp only [Fact.holds] at h9
      clear hd
      simp only [h9] at hK
      go_simp
      exact hK.out (.pointer (some ⟨a, 0, none⟩)) w (Chg.refl _ _) rfl
    · intro u w hc hd K hK -- 11
      have h10 : (Fact.val (.pointer (some ⟨a, 0, none⟩))).holds (u 10) w := hd.get 7 (by kernel_rfl)
      simp only [Fact.holds] at h10
      clear hd
      simp only [h10] at hK
      go_simp
      exact hK.out (.pointer (some ⟨a, 2, none⟩)) w (Chg.refl _ _) rfl
    · intro u w hc hd K hK -- 12
      have h11 : (Fact.val (.pointer (some ⟨a, 2, none⟩))).holds (u 11) w := hd.get 8 (by kernel_rfl)
      simp only [Fact.holds] at h11
      clear hd
      simp only [h11] at hK
      have hcell := cell_chg k2 hc
      go_simp
      exact hK.out _ _ (Chg.refl _ _) rfl
    · intro u w hc hd K hK -- 13
      have h8 : (Fact.val (.int .i64 ((n : Int) + 1))).holds (u 8) w := hd.get 5 (by kernel_rfl)
      simp only [Fact.holds] at h8
      have h12 : (Fact.val (.int .i64 ((r : Int)))).holds (u 12) w := hd.get 9 (by kernel_rfl)
      simp only [Fact.holds] at h12
      clear hd
      simp only [h8, h12] at hK
      go_simp
      rw [wr64 (p := (n : Int) + 1 + (r : Int)) (by omega) (by omega)]
      exact hK.out _ _ (Chg.refl _ _) rfl
    · intro u w hc hd K hK -- 14
      have h13 : (Fact.val (.int .i64 ((n : Int) + 1 + (r : Int)))).holds (u 13) w := hd.get 10 (by kernel_rfl)
      simp only [Fact.holds] at h13
      clear hd
      simp only [h13] at hK
      go_simp
      rw [wr64 (p := (n : Int) + 1 + (r : Int) + 4) (by omega) (by omega)]
      exact hK.out _ _ (Chg.refl _ _) rfl
  · intro u w hc hA K hK
    have e14 : u 14 = .int .i64 ((n : Int) + 1 + (r : Int) + 4) := hA.at 14 (by kernel_rfl)
    clear hA
    have HC : Hid (Chg (fun _ => False) w0 w) := hc
    clear hc
    go_simp
    refine hK.out _ _ ?_
    go_simp
    go_wp2
    go_ret
    refine ⟨?_, HC.out⟩
    rw [show ((n + r + 5 : Nat) : Int) = (n : Int) + 1 + (r : Int) + 4 by omega]
    rfl

end Go.Proofs.Ytibgjpifmpljkaa

/- The contracts of Size and Bytes; of no statement by themselves. -/
namespace Go.Proofs.Ytibgjpifmpljkaa
open Go.RowKit
set_option linter.unusedVariables false

theorem cells4 {w : World} {a : Nat} {x0 x1 x2 x3 : Value} {t : TypeId} (h : w.heap[a]? = some (.cells #[x0, x1, x2, x3] t (0, 0))) : w.cell? ⟨a, 0, none⟩ = some x0 ∧ w.cell? ⟨a, 1, none⟩ = some x1 ∧ w.cell? ⟨a, 2, none⟩ = some x2 ∧ w.cell? ⟨a, 3, none⟩ = some x3 :=
  ⟨by simp [World.cell?, h], by simp [World.cell?, h], by simp [World.cell?, h], by simp [World.cell?, h]⟩
theorem from_four (w : World) (x0 x1 x2 x3 : Value) (t : TypeId) : From (w.alloc (.cells #[x0, x1, x2, x3] t)) (some ⟨w.heap.size, 0, none⟩) 4 4 1 [x0, x1, x2, x3] := by
  refine ⟨rfl, .inr ⟨_, rfl, fun j u hu => ?_⟩⟩
  have hb : (w.alloc (.cells #[x0, x1, x2, x3] t)).heap[w.heap.size]? = some (.cells #[x0, x1, x2, x3] t (0, 0)) := heap_alloc_last _ _
  obtain ⟨q0, q1, q2, q3⟩ := cells4 hb
  match j, hu with
  | 0, hu => simp at hu; subst hu; rw [addk]; exact q0
  | 1, hu => simp at hu; subst hu; rw [addk]; exact q1
  | 2, hu => simp at hu; subst hu; rw [addk]; exact q2
  | 3, hu => simp at hu; subst hu; rw [addk]; exact q3
/-- Four bytes are appended: before, behind the list of four, behind the append. -/
def FourJ (w0 W : World) (n : Nat) (xs : List Value) (b0 b1 b2 b3 : Int) (y z : Value) : Nat → World → Prop
  | 0, w => Chg (fun _ => False) W w
  | 1, w => Chg (fun _ => False) W w ∧ ∃ c, y = .slice (some ⟨c, 0, none⟩) 4 4 ∧ From w (some ⟨c, 0, none⟩) 4 4 1 [Value.int .u8 b0, .int .u8 b1, .int .u8 b2, .int .u8 b3]
  | _, w => w.ownsRow w0.heap.size 5 1 z (n + 4) (xs ++ [Value.int .u8 b0, .int .u8 b1, .int .u8 b2, .int .u8 b3]) ∧ Chg (fun _ => False) w0 w
theorem four8 (b0 b1 b2 b3 : Int) : ∀ u ∈ [Value.int .u8 b0, .int .u8 b1, .int .u8 b2, .int .u8 b3], u.oneCell' = true := fun u hu => by
  simp at hu
  rcases hu with rfl | rfl | rfl | rfl <;> rfl
theorem ins_app (k : IntKind) (a b : List Nat) : ins k (nums (a ++ b)) = ins k (nums a) ++ ins k (nums b) := by simp [ins, nums]
theorem dg4 (t : Nat) (ht : t < 4294967296) (b0 b1 b2 b3 : Int) (h0 : b0 = ((t / 16777216 : Nat) : Int)) (h1 : b1 = ((t / 65536 % 256 : Nat) : Int)) (h2 : b2 = ((t / 256 % 256 : Nat) : Int)) (h3 : b3 = ((t % 256 : Nat) : Int)) : ins .u8 (nums (Rc.dg 4 t)) = [Value.int .u8 b0, .int .u8 b1, .int .u8 b2, .int .u8 b3] := by
  have e : Rc.dg 4 t = [t / 256 / 256 / 256 % 256, t / 256 / 256 % 256, t / 256 % 256, t % 256] := by simp [Rc.dg]
  rw [e, h0, h1, h2, h3]
  have e0 : t / 256 / 256 / 256 % 256 = t / 16777216 := by omega
  have e1 : t / 256 / 256 % 256 = t / 65536 % 256 := by omega
  rw [e0, e1]
  simp [ins, nums]

set_option maxHeartbeats 4000000 in
set_option maxRecDepth 100000 in
theorem digits_any (B a : Nat) (v : Value) (s : List Nat) (d r t R : Nat) (w0 : World) (h : En w0 B a v ⟨s, d, r, t⟩ R) (ht : t < 4294967296) (hl : s.length + r + 5 ≤ 140737488355328) :
    Calls Try.prog 47 #[.pointer (some ⟨a, 0, none⟩)] w0 fun e w' => ∃ v', e = .returned v' ∧ w'.ownsRow w0.heap.size 5 1 v' (s.length + r + 5) (ins .u8 (nums (Rc.digs ⟨s, d, r, t⟩))) ∧ Chg (fun _ => False) w0 w' := by
  obtain ⟨i0, hi, hz0, hz1, hz2⟩ := info_parts infoU8
  have HH : Hid (En w0 B a v ⟨s, d, r, t⟩ R) := h
  have hF0 : w0.ownsRow B 5 1 v s.length (ins .u8 (nums s)) := h.own
  obtain ⟨ad, cap, hv, _⟩ := own_any hF0
  rw [hv] at hF0
  have HF0 : Hid (From w0 ad s.length cap 1 (ins .u8 (nums s))) := own_from hF0
  have HV : Hid (v = .slice ad s.length cap) := hv
  have hone := ins_one .u8 (nums s)
  clear h hF0 hv
  go_enter Try.func47, Try.ntmps47
  go_wp2_with fail
  refine (losize_any B a v s d r t R _ HH.out (by omega)).mono ?_
  rintro e w1 ⟨rfl, c1⟩
  have HC1 : Hid (Chg (fun _ => False) w0 w1) := c1
  have hs1 := c1.size
  clear c1
  go_wp2_with (at_make; refine wpList_make_own _ rfl _ _ 39 rfl w0.heap.size 5 i0 (.int .u8 0) 1 Try.underlying39 hi hz0 hz1 .i64 .i64 _ (s.length + r + 5) rfl rfl rfl (by rw [hz2]; omega) (by unfold maxLen; omega) hs1 ?_)
  intro w2 ho2 hg2
  have c2 : Chg (fun _ => False) w0 w2 := HC1.out.grown hg2 (fun k e => by cases e)
  have k0 : w2.cell? ⟨a, 0, none⟩ = some (.slice ad s.length cap) := by
    have := (cells5 (HH.out.new c2).blk).1
    rw [HV.out] at this
    exact this
  have hF2 := HF0.out.keep c2
  have HC2 : Hid (Chg (fun _ => False) w0 w2) := c2
  have hs2 := c2.size
  clear c2 hg2 HC1
  generalize w1.heap.size = P1 at *
  go_wp2_with (at_builtin; refine wpList_append_moved rfl _ _ 39 rfl w0.heap.size 5 i0 (.int .u8 0) 1 1 Try.underlying39 hi hz0 hz1 hz2 rfl (by decide) _ 0 [] rfl ad s.length cap rfl (ins .u8 (nums s)) ho2 hF2 hone (by unfold maxLen; omega) (by omega) hs2 ?_)
  intro v3 w3 ho3 hg3 hm3
  have c3 : Chg (fun _ => False) w0 w3 := HC2.out.grown hg3 (fun k e => .inr (ho2.lt k e).1)
  replace ho3 : w3.ownsRow w0.heap.size 5 1 v3 s.length (ins .u8 (nums s)) := by simpa using ho3
  have HC3 : Hid (Chg (fun _ => False) w0 w3) := c3
  have k1 : w3.cell? ⟨a, 1, none⟩ = some (.int .u8 (d : Int)) := (cells5 (HH.out.new c3).blk).2.1
  obtain ⟨ad3, cap3, hv3, _⟩ := own_any ho3
  subst hv3
  have c3a := chg_one w3 (.cells #[.int .u8 (d : Int)] 5)
  have o3 := ho3.alloc (.cells #[.int .u8 (d : Int)] 5)
  have hfr3 := from_one8 w3 (.int .u8 (d : Int)) 5
  have hone3 := one8 d
  have hs3 : w0.heap.size ≤ (w3.alloc (.cells #[.int .u8 (d : Int)] 5)).heap.size := Nat.le_trans c3.size c3a.size
  clear c3 hg3 hm3 HC2 k0 hF2 ho2 hs2 hone
  go_wp2_with (at_builtin; refine wpList_append_moved rfl _ _ 39 rfl w0.heap.size 5 i0 (.int .u8 0) 1 1 Try.underlying39 hi hz0 hz1 hz2 rfl (by decide) _ s.length (ins .u8 (nums s)) rfl (some ⟨w3.heap.size, 0, none⟩) 1 1 rfl [.int .u8 (d : Int)] o3 hfr3 hone3 (by unfold maxLen; omega) (by omega) hs3 ?_)
  intro v4 w4 ho4 hg4 hm4
  have c4 : Chg (fun _ => False) w0 w4 := (chg_then HC3.out c3a).grown hg4 (fun k e => .inr (o3.lt k e).1)
  have HC4 : Hid (Chg (fun _ => False) w0 w4) := c4
  have k2 : w4.cell? ⟨a, 2, none⟩ = some (.int .i64 (r : Int)) := (cells5 (HH.out.new c4).blk).2.2.1
  obtain ⟨ad4, cap4, hv4, _⟩ := own_any ho4
  subst hv4
  have HO4 : Hid (w4.ownsRow w0.heap.size 5 1 (.slice ad4 (s.length + 1) cap4) (s.length + 1 + 0) (ins .u8 (nums (s ++ d :: List.replicate 0 255)))) := by
    show World.ownsRow _ _ _ _ _ _ _
    rw [ins_app]
    exact ho4
  clear c4 hg4 hm4 HC3 ho4 o3 hfr3 hone3 hs3 c3a ho3 k1
  go_wp2_with fail
  go_loopw [3, 24] (fun bv iv wr => ∃ j : Nat, j ≤ r ∧ iv = .int .i64 (j : Int) ∧ wr.ownsRow w0.heap.size 5 1 bv (s.length + 1 + j) (ins .u8 (nums (s ++ d :: List.replicate j 255))) ∧ Chg (fun _ => False) w0 wr) (fun _ iv _ => r - (intOf iv).toNat)
  case atStart => exact ⟨0, Nat.zero_le _, rfl, HO4.out, HC4.out⟩
  case round =>
    clear HO4 HC4 k2
    obtain ⟨j, hj, rfl, ho, hc⟩ := hrel
    obtain ⟨ad5, cap5, hv5, _⟩ := own_any ho
    subst hv5
    by_cases hjr : j < r
    · have c5 := chg_one wr (.cells #[.int .u8 255] 5)
      have o5 := ho.alloc (.cells #[.int .u8 255] 5)
      have hfr := from_one8 wr (.int .u8 255) 5
      have hone5 : ∀ u ∈ [Value.int .u8 255], u.oneCell' = true := one8 255
      have hsz : w0.heap.size ≤ (wr.alloc (.cells #[.int .u8 255] 5)).heap.size := Nat.le_trans hc.size c5.size
      have HC5 : Hid (Chg (fun _ => False) w0 (wr.alloc (.cells #[.int .u8 255] 5))) := chg_then hc c5
      clear c5 hc ho
      go_wp2_with (at_builtin; refine wpList_append_moved rfl _ _ 39 rfl w0.heap.size 5 i0 (.int .u8 0) 1 1 Try.underlying39 hi hz0 hz1 hz2 rfl (by decide) _ (s.length + 1 + j) (ins .u8 (nums (s ++ d :: List.replicate j 255))) rfl (some ⟨wr.heap.size, 0, none⟩) 1 1 rfl [.int .u8 255] o5 hfr hone5 (by unfold maxLen; omega) (by omega) hsz ?_)
      intro v6 w6 ho6 hg6 hm6
      have HC6 : Hid (Chg (fun _ => False) w0 w6) := HC5.out.grown hg6 (fun k e => .inr (o5.lt k e).1)
      have HO6 : Hid (w6.ownsRow w0.heap.size 5 1 v6 (s.length + 1 + (j + 1)) (ins .u8 (nums (s ++ d :: List.replicate (j + 1) 255)))) := by
        show World.ownsRow _ _ _ _ _ _ _
        have e : s ++ d :: List.replicate (j + 1) 255 = (s ++ d :: List.replicate j 255) ++ [255] := by rw [List.replicate_succ']; simp
        rw [e, ins_app]
        exact ho6
      obtain ⟨ad6, cap6, hv6, _⟩ := own_any ho6
      subst hv6
      clear ho6 hg6 hm6 o5 hfr hone5 hsz HC5
      go_wp2
      go_roundw
      case rel => exact ⟨j + 1, by omega, by go_num, HO6.out, HC6.out⟩
      case measure => simp [intOf]; omega
    · obtain rfl : j = r := by omega
      obtain ⟨n6, hn6⟩ : ∃ n6, n6 = s.length + 1 + j := ⟨_, rfl⟩
      obtain ⟨xs6, hx6⟩ : ∃ xs6, xs6 = ins .u8 (nums (s ++ d :: List.replicate j 255)) := ⟨_, rfl⟩
      obtain ⟨b0, hb0⟩ : ∃ y : Int, (t : Int) / 16777216 = y := ⟨_, rfl⟩
      have b01 : 0 ≤ b0 := by omega
      have b02 : b0 < 256 := by omega
      obtain ⟨y1, hy1⟩ : ∃ y : Int, (t : Int) / 65536 = y := ⟨_, rfl⟩
      obtain ⟨y2, hy2⟩ : ∃ y : Int, (t : Int) / 256 = y := ⟨_, rfl⟩
      obtain ⟨b1, hb1⟩ : ∃ y : Int, y1 % 256 = y := ⟨_, rfl⟩
      obtain ⟨b2, hb2⟩ : ∃ y : Int, y2 % 256 = y := ⟨_, rfl⟩
      obtain ⟨b3, hb3⟩ : ∃ y : Int, (t : Int) % 256 = y := ⟨_, rfl⟩
      have hw0 : IntKind.u8.wrap b0 = b0 := by simp [IntKind.wrap, IntKind.signed, IntKind.bits]; omega
      have hw1 : IntKind.u8.wrap y1 = b1 := by simp [IntKind.wrap, IntKind.signed, IntKind.bits]; omega
      have hw2 : IntKind.u8.wrap y2 = b2 := by simp [IntKind.wrap, IntKind.signed, IntKind.bits]; omega
      have hw3 : IntKind.u8.wrap (t : Int) = b3 := by simp [IntKind.wrap, IntKind.signed, IntKind.bits]; omega
      have HD : Hid (ins .u8 (nums (Rc.dg 4 t)) = [Value.int .u8 b0, .int .u8 b1, .int .u8 b2, .int .u8 b3]) := dg4 t ht b0 b1 b2 b3 (by omega) (by omega) (by omega) (by omega)
      have HLEN : Hid (n6 + 4 ≤ 140737488355328) := by show n6 + 4 ≤ _; omega
      have HONE4 : Hid (∀ u ∈ [Value.int .u8 b0, .int .u8 b1, .int .u8 b2, .int .u8 b3], u.oneCell' = true) := four8 b0 b1 b2 b3
      have K30 : Hid (w0.cell? ⟨a, 3, none⟩ = some (.int .u32 (t : Int))) := (cells5 HH.out.blk).2.2.2.1
      have k36 := cell_chg K30.out hc
      rw [← hn6, ← hx6] at ho
      have HO6 : Hid (wr.ownsRow w0.heap.size 5 1 (.slice ad5 n6 cap5) n6 xs6) := ho
      have HC6 : Hid (Chg (fun _ => False) w0 wr) := hc
      have HSZ : Hid (w0.heap.size ≤ wr.heap.size) := hc.size
      have HX6 : Hid (xs6 ++ [Value.int .u8 b0, .int .u8 b1, .int .u8 b2, .int .u8 b3] = ins .u8 (nums (Rc.digs ⟨s, d, j, t⟩)) ∧ n6 + 4 = s.length + j + 5) := by
        refine ⟨?_, by omega⟩
        have e : Rc.digs ⟨s, d, j, t⟩ = (s ++ d :: List.replicate j 255) ++ Rc.dg 4 t := by simp [Rc.digs]
        rw [e, ins_app, HD.out, hx6]
      clear ho hc hx6 HH
      rw [← hn6]
      clear hn6
      have hdj : decide ((j : Int) < (j : Int)) = false := by simp
      go_wp2_with fail
      generalize wr = W6 at *
      refine wp_region_phase (mk := fun u => #[_, _, _, _, _, _, _, _, _, _, _, _, _, _, _, _, _, _, _, _, _, _, _, _, _, _, _, _, _, _, u 30, u 31, u 32, u 33, u 34, u 35, u 36, u 37, u 38, u 39, u 40, u 41, u 42, u 43, u 44, u 45, u 46, u 47, u 48, u 49, u 50, u 51, u 52, u 53, u 54, u 55]) (G := lookG [(30, .slice ad5 n6 cap5), (31, .pointer (some ⟨a, 0, none⟩)), (32, .pointer (some ⟨a, 0, none⟩)), (33, .pointer (some ⟨a, 3, none⟩)), (34, .int .u32 (t : Int)), (35, .int .u32 b0), (36, .int .u8 b0), (37, .pointer (some ⟨a, 0, none⟩)), (38, .pointer (some ⟨a, 0, none⟩)), (39, .pointer (some ⟨a, 3, none⟩)), (40, .int .u32 (t : Int)), (41, .int .u32 y1), (42, .int .u8 b1), (43, .pointer (some ⟨a, 0, none⟩)), (44, .pointer (some ⟨a, 0, none⟩)), (45, .pointer (some ⟨a, 3, none⟩)), (46, .int .u32 (t : Int)), (47, .int .u32 y2), (48, .int .u8 b2), (49, .pointer (some ⟨a, 0, none⟩)), (50, .pointer (some ⟨a, 0, none⟩)), (51, .pointer (some ⟨a, 3, none⟩)), (52, .int .u32 (t : Int)), (53, .int .u8 b3)]) (J := fun q u w => w.cell? ⟨a, 3, none⟩ = some (.int .u32 (t : Int)) ∧ FourJ w0 W6 n6 xs6 b0 b1 b2 b3 (u 54) (u 55) q w) [24, 25] (fun _ => undef) rfl (by kernel_rfl) 26 _ rfl rfl (by kernel_rfl) (by kernel_rfl) (by kernel_rfl) (by decide) ?_ ?_ ?_ ?_ ?_
      · repeat (refine ⟨⟨_, rfl, fun _ _ => rfl⟩, ?_⟩)
        exact trivial
      · intro q u u2 w h hj
        have e1 : u 54 = u2 54 := h 24 (by decide)
        have e2 : u 55 = u2 55 := h 25 (by decide)
        show _ ∧ FourJ w0 W6 n6 xs6 b0 b1 b2 b3 (u2 54) (u2 55) q w
        rw [← e1, ← e2]
        exact hj
      · exact ⟨cell_chg k36 (Chg.refl _ W6).drew, (Chg.refl _ W6).drew⟩
      · refine ⟨?_, ?_, ?_, ?_, ?_, ?_, ?_, ?_, ?_, ?_, ?_, ?_, ?_, ?_, ?_, ?_, ?_, ?_, ?_, ?_, ?_, ?_, ?_, ?_, ?_, ?_, trivial⟩
        · show StepR _ _ _ _ _ _  _ -- 30
          unfold StepR
          intro q u w hj hd K hK
          clear hd
          go_simp
          exact hK.out (.slice ad5 n6 cap5) rfl
        · show StepR _ _ _ _ _ _  _ -- 31
          unfold StepR
          intro q u w hj hd K hK
          clear hd
          go_simp
          exact hK.out (.pointer (some ⟨a, 0, none⟩)) rfl
        · show StepR _ _ _ _ _ _  _ -- 32
          unfold StepR
          intro q u w hj hd K hK
          have h31 : u 31 = .pointer (some ⟨a, 0, none⟩) := hd.get 1 (by kernel_rfl)
          clear hd
          simp only [h31] at hK
          go_simp
          exact hK.out (.pointer (some ⟨a, 0, none⟩)) rfl
        · show StepR _ _ _ _ _ _  _ -- 33
          unfold StepR
          intro q u w hj hd K hK
          have h32 : u 32 = .pointer (some ⟨a, 0, none⟩) := hd.get 2 (by kernel_rfl)
          clear hd
          simp only [h32] at hK
          go_simp
          exact hK.out (.pointer (some ⟨a, 3, none⟩)) rfl
        · show StepR _ _ _ _ _ _  _ -- 34
          unfold StepR
          intro q u w hj hd K hK
          have h33 : u 33 = .pointer (some ⟨a, 3, none⟩) := hd.get 3 (by kernel_rfl)
          clear hd
          simp only [h33] at hK
          have hcell := hj.1
          go_simp
          exact hK.out _ rfl
        · show StepR _ _ _ _ _ _  _ -- 35
          unfold StepR
          intro q u w hj hd K hK
          have h34 : u 34 = .int .u32 (t : Int) := hd.get 4 (by kernel_rfl)
          clear hd
          simp only [h34] at hK
          go_simp
          exact hK.out (.int .u32 b0) rfl
        · show StepR _ _ _ _ _ _  _ -- 36
          unfold StepR
          intro q u w hj hd K hK
          have h35 : u 35 = .int .u32 b0 := hd.get 5 (by kernel_rfl)
          clear hd
          simp only [h35] at hK
          go_simp
          first | exact hK.out (.int .u8 b0) rfl | (rw [hw0]; exact hK.out (.int .u8 b0) rfl)
        · show StepR _ _ _ _ _ _  _ -- 37
          unfold StepR
          intro q u w hj hd K hK
          clear hd
          go_simp
          exact hK.out (.pointer (some ⟨a, 0, none⟩)) rfl
        · show StepR _ _ _ _ _ _  _ -- 38
          unfold StepR
          intro q u w hj hd K hK
          have h37 : u 37 = .pointer (some ⟨a, 0, none⟩) := hd.get 7 (by kernel_rfl)
          clear hd
          simp only [h37] at hK
          go_simp
          exact hK.out (.pointer (some ⟨a, 0, none⟩)) rfl
        · show StepR _ _ _ _ _ _  _ -- 39
          unfold StepR
          intro q u w hj hd K hK
          have h38 : u 38 = .pointer (some ⟨a, 0, none⟩) := hd.get 8 (by kernel_rfl)
          clear hd
          simp only [h38] at hK
          go_simp
          exact hK.out (.pointer (some ⟨a, 3, none⟩)) rfl
        · show StepR _ _ _ _ _ _  _ -- 40
          unfold StepR
          intro q u w hj hd K hK
          have h39 : u 39 = .pointer (some ⟨a, 3, none⟩) := hd.get 9 (by kernel_rfl)
          clear hd
          simp only [h39] at hK
          have hcell := hj.1
          go_simp
          exact hK.out _ rfl
        · show StepR _ _ _ _ _ _  _ -- 41
          unfold StepR
          intro q u w hj hd K hK
          have h40 : u 40 = .int .u32 (t : Int) := hd.get 10 (by kernel_rfl)
          clear hd
          simp only [h40] at hK
          go_simp
          exact hK.out (.int .u32 y1) rfl
        · show StepR _ _ _ _ _ _  _ -- 42
          unfold StepR
          intro q u w hj hd K hK
          have h41 : u 41 = .int .u32 y1 := hd.get 11 (by kernel_rfl)
          clear hd
          simp only [h41] at hK
          go_simp
          first | exact hK.out (.int .u8 b1) rfl | (rw [hw1]; exact hK.out (.int .u8 b1) rfl)
        · show StepR _ _ _ _ _ _  _ -- 43
          unfold StepR
          intro q u w hj hd K hK
          clear hd
          go_simp
          exact hK.out (.pointer (some ⟨a, 0, none⟩)) rfl
        · show StepR _ _ _ _ _ _  _ -- 44
          unfold StepR
          intro q u w hj hd K hK
          have h43 : u 43 = .pointer (some ⟨a, 0, none⟩) := hd.get 13 (by kernel_rfl)
          clear hd
          simp only [h43] at hK
          go_simp
          exact hK.out (.pointer (some ⟨a, 0, none⟩)) rfl
        · show StepR _ _ _ _ _ _  _ -- 45
          unfold StepR
          intro q u w hj hd K hK
          have h44 : u 44 = .pointer (some ⟨a, 0, none⟩) := hd.get 14 (by kernel_rfl)
          clear hd
          simp only [h44] at hK
          go_simp
          exact hK.out (.pointer (some ⟨a, 3, none⟩)) rfl
        · show StepR _ _ _ _ _ _  _ -- 46
          unfold StepR
          intro q u w hj hd K hK
          have h45 : u 45 = .pointer (some ⟨a, 3, none⟩) := hd.get 15 (by kernel_rfl)
          clear hd
          simp only [h45] at hK
          have hcell := hj.1
          go_simp
          exact hK.out _ rfl
        · show StepR _ _ _ _ _ _  _ -- 47
          unfold StepR
          intro q u w hj hd K hK
          have h46 : u 46 = .int .u32 (t : Int) := hd.get 16 (by kernel_rfl)
          clear hd
          simp only [h46] at hK
          go_simp
          exact hK.out (.int .u32 y2) rfl
        · show StepR _ _ _ _ _ _  _ -- 48
          unfold StepR
          intro q u w hj hd K hK
          have h47 : u 47 = .int .u32 y2 := hd.get 17 (by kernel_rfl)
          clear hd
          simp only [h47] at hK
          go_simp
          first | exact hK.out (.int .u8 b2) rfl | (rw [hw2]; exact hK.out (.int .u8 b2) rfl)
        · show StepR _ _ _ _ _ _  _ -- 49
          unfold StepR
          intro q u w hj hd K hK
          clear hd
          go_simp
          exact hK.out (.pointer (some ⟨a, 0, none⟩)) rfl
        · show StepR _ _ _ _ _ _  _ -- 50
          unfold StepR
          intro q u w hj hd K hK
          have h49 : u 49 = .pointer (some ⟨a, 0, none⟩) := hd.get 19 (by kernel_rfl)
          clear hd
          simp only [h49] at hK
          go_simp
          exact hK.out (.pointer (some ⟨a, 0, none⟩)) rfl
        · show StepR _ _ _ _ _ _  _ -- 51
          unfold StepR
          intro q u w hj hd K hK
          have h50 : u 50 = .pointer (some ⟨a, 0, none⟩) := hd.get 20 (by kernel_rfl)
          clear hd
          simp only [h50] at hK
          go_simp
          exact hK.out (.pointer (some ⟨a, 3, none⟩)) rfl
        · show StepR _ _ _ _ _ _  _ -- 52
          unfold StepR
          intro q u w hj hd K hK
          have h51 : u 51 = .pointer (some ⟨a, 3, none⟩) := hd.get 21 (by kernel_rfl)
          clear hd
          simp only [h51] at hK
          have hcell := hj.1
          go_simp
          exact hK.out _ rfl
        · show StepR _ _ _ _ _ _  _ -- 53
          unfold StepR
          intro q u w hj hd K hK
          have h52 : u 52 = .int .u32 (t : Int) := hd.get 22 (by kernel_rfl)
          clear hd
          simp only [h52] at hK
          go_simp
          first | exact hK.out (.int .u8 b3) rfl | (rw [hw3]; exact hK.out (.int .u8 b3) rfl)
        · show StepW _ _ _ _ _ _ 0 _ -- 54
          unfold StepW
          intro u w hj hd K hK
          have h36 : u 36 = .int .u8 b0 := hd.get 6 (by kernel_rfl)
          have h42 : u 42 = .int .u8 b1 := hd.get 12 (by kernel_rfl)
          have h48 : u 48 = .int .u8 b2 := hd.get 18 (by kernel_rfl)
          have h53 : u 53 = .int .u8 b3 := hd.get 23 (by kernel_rfl)
          clear hd
          simp only [h36, h42, h48, h53] at hK
          obtain ⟨j3, hc⟩ := hj
          go_simp
          have c2 := chg_one w (.cells #[.int .u8 b0, .int .u8 b1, .int .u8 b2, .int .u8 b3] 5)
          exact hK.out _ _ ⟨cell_chg j3 c2, chg_then hc c2, _, rfl, from_four w (.int .u8 b0) (.int .u8 b1) (.int .u8 b2) (.int .u8 b3) 5⟩ trivial
        · show StepW _ _ _ _ _ _ 1 _ -- 55
          unfold StepW
          intro u w hj hd K hK
          have h30 : u 30 = .slice ad5 n6 cap5 := hd.get 0 (by kernel_rfl)
          clear hd
          obtain ⟨j3, hc, c, hq, hf⟩ := hj
          refine step_append_moved (a := ⟨_, []⟩) (by rfl) (.tmp 30) (.tmp 54) 39 (by rfl) w0.heap.size 5 i0 (.int .u8 0) 1 1 Try.underlying39 hi hz0 hz1 hz2 rfl (by decide) (.slice ad5 n6 cap5) n6 xs6 (by exact h30) (some ⟨c, 0, none⟩) 4 4 (by exact hq) [Value.int .u8 b0, .int .u8 b1, .int .u8 b2, .int .u8 b3] (ownsRow_keep HO6.out hc (fun _ _ f => f)) hf HONE4.out (by have := HLEN.out; unfold maxLen; omega) (by have := HLEN.out; omega) (by have := hc.size; have := HSZ.out; omega) ?_
          intro v2 w2 ho hg hm
          have c3 : Chg (fun _ => False) w0 w2 := (chg_then HC6.out hc).grown hg (fun k e => .inr (HO6.out.lt k e).1)
          exact hK.out v2 w2 ⟨cell_chg K30.out c3, ho, c3⟩ trivial
      · intro u w hj hA K hK
        have e55 : u 55 = u 55 := rfl
        clear hA e55
        obtain ⟨_, ho, hc⟩ := hj
        obtain ⟨ad7, cap7, e55, _⟩ := own_any ho
        rw [e55] at ho
        rw [HX6.out.1, HX6.out.2] at ho
        have HO7 : Hid (w.ownsRow w0.heap.size 5 1 (.slice ad7 (n6 + 4) cap7) (s.length + j + 5) (ins .u8 (nums (Rc.digs ⟨s, d, j, t⟩)))) := by rw [← HX6.out.2] at ho ⊢; exact ho
        have HC7 : Hid (Chg (fun _ => False) w0 w) := hc
        clear ho hc
        go_simp
        refine hK.out _ _ ?_
        go_simp
        go_wp2
        go_ret
        exact ⟨_, rfl, HO7.out, HC7.out⟩

theorem bytes_any (B a : Nat) (v : Value) (e : Rc.E) (w : World) (h : Enc w B a v e) (hk : e.k + 5 ≤ 140737488355328) :
    Calls Try.prog 20 #[.pointer (some ⟨a, 0, none⟩)] w fun x w' => ∃ v', x = .returned v' ∧ w'.ownsRow w.heap.size 5 1 v' (e.k + 5) (ins .u8 (nums (Rc.by_ e))) ∧ Chg (fun _ => False) w w' := by
  obtain ⟨l, hE, hI⟩ := h
  have hlen := hI.len
  have hd := Rc.digs_is hI
  go_enter Try.func20, Try.ntmps20
  go_wp2_with fail
  refine (digits_any B a v l.s l.h l.r l.t e.R _ hE hI.ht (by omega)).mono ?_
  rintro x w1 ⟨v', rfl, ho, c1⟩
  have ho2 : w1.ownsRow w.heap.size 5 1 v' (e.k + 5) (ins .u8 (nums (Rc.by_ e))) := by rw [← hlen, ← hd]; exact ho
  obtain ⟨ad, cap, rfl, _⟩ := own_any ho2
  have HO : Hid (w1.ownsRow w.heap.size 5 1 (.slice ad (e.k + 5) cap) (e.k + 5) (ins .u8 (nums (Rc.by_ e)))) := ho2
  clear hE hI ho ho2 hd
  go_wp2
  go_ret
  exact ⟨_, rfl, HO.out, c1⟩
end Go.Proofs.Ytibgjpifmpljkaa

/- The contracts of Clone for bytes and of Fork; of no statement by themselves. -/
namespace Go.Proofs.Ytibgjpifmpljkaa
open Go.RowKit
set_option linter.unusedVariables false

theorem eq_nil8_some (x : Addr) (n c : Nat) (w : World) : (binOp .eql 39 (.slice (some x) n c) (.slice none 0 0)).run Try.prog w = .ok (.bool false) w := by kernel_rfl
theorem eq_nil8_none (w : World) : (binOp .eql 39 (.slice none 0 0) (.slice none 0 0)).run Try.prog w = .ok (.bool true) w := by kernel_rfl

end Go.Proofs.Ytibgjpifmpljkaa

/- What the book's texts stand on: lists of bytes as cells, strings made of them; of no statement by itself. -/
namespace Go.Proofs.Ytibgjpifmpljkaa.Bk
open Go.RowKit

def cells8 (xs : List Int) : List Value := xs.map (Value.int .u8)
theorem oneCells (l : List Int) : ∀ u ∈ l.map (Value.int .u8), u.oneCell' = true := by
  intro u hu
  obtain ⟨x, _, rfl⟩ := List.mem_map.1 hu
  rfl
theorem info5 : (Try.prog.info? 5).map (fun i => (i.zero, i.size, i.bytes)) = some (some (.int .u8 0), 1, 1) := by kernel_rfl
theorem chg_one (S : Nat → Prop) (w : World) (o : Obj) : Chg S w (w.alloc o) := (Chg.refl S w).alloc o
theorem chg_then {S : Nat → Prop} {a b c : World} (h : Chg S a b) (k : Chg (fun _ => False) b c) : Chg S a c := h.trans k (fun _ f => f.elim)
theorem row8_one (w : World) (x : Int) (t : TypeId) : Row8 (w.alloc (.cells #[.int .u8 x] t)) (some ⟨w.heap.size, 0, none⟩) 1 1 [x] := by
  refine ⟨rfl, .inr ⟨_, rfl, ?_⟩⟩
  intro j u hu
  match j, hu with
  | 0, hu => simp at hu; subst hu; simp [Addr.add]
/-- 'string(b)' of a list of bytes, in every later draw. -/
theorem conv8 {w : World} {ad : Option Addr} {m c : Nat} {xs : List Int} (h : Row8 w ad m c xs) (k : Nat) :
    (convert 39 9 (.slice ad m c)).run Try.prog (w.drewN k) = .ok (.string (strOfNums xs)) (w.drewN k) := by
  rcases h.2 with ⟨rfl, rfl, rfl⟩ | ⟨x, rfl, hx⟩
  · have e : xs = [] := List.eq_nil_of_length_eq_zero h.1
    subst e
    exact run_convert_bytes_nil (P := Try.prog) (w.drewN k) 39 5 Try.underlying39 Try.underlying5 0 0 9 Try.underlying9
  · have hl : (loadCells x m).run Try.prog (w.drewN k) = .ok (xs.map (Value.int .u8)).toArray (w.drewN k) := by
      have := run_loadCells_list (P := Try.prog) (w.drewN k) x (xs.map (Value.int .u8)) hx
      simpa [h.1] using this
    rw [run_convert_bytes_string (w.drewN k) 39 9 5 _ m c Try.underlying39 Try.underlying5 Try.underlying9, run_bytesToString (w.drewN k) _ m c xs hl, foldl_push_bytes]
    simp [strOfNums, ByteArray.empty, ByteArray.emptyWithCapacity]
    rfl
theorem conv8_here {w : World} {ad : Option Addr} {m c : Nat} {xs : List Int} (h : Row8 w ad m c xs) :
    (convert 39 9 (.slice ad m c)).run Try.prog w = .ok (.string (strOfNums xs)) w := conv8 h 0
theorem row8_alloc {w : World} {ad : Option Addr} {m c : Nat} {xs : List Int} (h : Row8 w ad m c xs) (o : Obj) : Row8 (w.alloc o) ad m c xs :=
  row8_keep h (chg_one (fun _ => False) w o) (fun _ _ f => f)
theorem row8_chg {w w' : World} {ad : Option Addr} {m c : Nat} {xs : List Int} (h : Row8 w ad m c xs) (hc : Chg (fun _ => False) w w') : Row8 w' ad m c xs :=
  row8_keep h hc (fun _ _ f => f)
theorem chg_none {S : Nat → Prop} {w w' : World} (hc : Chg (fun _ => False) w w') : Chg S w w' := hc.mono (fun _ f => f.elim)
theorem row8_cells {w : World} {ad : Option Addr} {n c : Nat} {ys : List Int} (h : Row8 w ad n c ys) (hn : 1 ≤ n) : ∃ x, ad = some x ∧ ∀ k, k < n → w.cell? (x.add k) = some (.int .u8 (ys.getD k 0)) := by
  rcases h.2 with ⟨_, e, _⟩ | ⟨x, e, hx⟩
  · omega
  · exact ⟨x, e, fun k hk => hx k _ (by simp [List.getD, show k < ys.length by have := h.1; omega])⟩
end Go.Proofs.Ytibgjpifmpljkaa.Bk

/- The contracts of worth, number, lays and begun; of no statement by themselves. -/
namespace Go.Proofs.Ytibgjpifmpljkaa
open Go.RowKit
set_option linter.unusedVariables false

theorem row8_own {w : World} {B : Nat} {ad : Option Addr} {c n : Nat} {xs : List Int} (h : w.ownsRow B 5 1 (.slice ad n c) n (ins .u8 xs)) : Row8 w ad n c xs := by
  have hl : n = xs.length := by have := h.1; simp [ins] at this; omega
  refine ⟨hl.symm, ?_⟩
  rcases h.2 with ⟨e0, e1⟩ | ⟨g, cap, cur, e0, _⟩
  · simp only [Value.slice.injEq] at e0
    exact .inl ⟨e0.1, e1, e0.2.2⟩
  · simp only [Value.slice.injEq, true_and] at e0
    obtain ⟨rfl, rfl⟩ := e0
    exact .inr ⟨_, rfl, fun j u hu => h.cells (g := g) rfl j u hu⟩
theorem conv_own {w : World} {B : Nat} {ad : Option Addr} {c n : Nat} {xs : List Int} (h : w.ownsRow B 5 1 (.slice ad n c) n (ins .u8 xs)) :
    (convert 39 9 (.slice ad n c)).run Try.prog w = .ok (.string (strOfNums xs)) w := Bk.conv8_here (row8_own h)

/-- The bytes as a string. -/
def sb (e : Rc.E) : ByteArray := strOfNums (nums (Rc.by_ e))
def wo (one : Bool) : Int := if one then 1 else 0
def num (i : Int) : Nat := (i % 5).toNat
theorem num_le (i : Int) : num i ≤ 4 := by unfold num; omega
theorem tm5 (i : Int) : (0 ≤ i → i.tmod 5 = i % 5) ∧ (i < 0 → i.tmod 5 = -((-i) % 5)) := by
  refine ⟨fun h => Int.tmod_eq_emod_of_nonneg h, fun h => ?_⟩
  have e : i.tmod 5 = -((-i).tmod 5) := by rw [Int.neg_tmod, Int.neg_neg]
  rw [e, Int.tmod_eq_emod_of_nonneg (by omega)]
/-- An encoder and a set of four. -/
structure Es (w : World) (B a s : Nat) (v u : Value) (e : Rc.E) (xs : List Int) : Prop where
  en : Enc w B a v e
  st : St w B s u xs
  inn : In31 xs
  len : xs.length = 4
  ok : Rc.Ok e
/-- What of it may change. -/
def Fe (a : Nat) (v u : Value) (z : Nat) : Prop := Foot a v z ∨ u.ownBlock = some z
theorem Es.keep {w w' : World} {S : Nat → Prop} {B a s : Nat} {v u : Value} {e : Rc.E} {xs : List Int} (h : Es w B a s v u e xs) (hc : Chg S w w') (h1 : ¬ S a) (h2 : ∀ g, v.ownBlock = some g → ¬ S g) (h3 : ¬ S s) (h4 : ∀ g, u.ownBlock = some g → ¬ S g) : Es w' B a s v u e xs := by
  obtain ⟨l, hE, hI⟩ := h.en
  exact ⟨⟨l, hE.keep hc h1 h2, hI⟩, h.st.keep hc h3 h4, h.inn, h.len, h.ok⟩
theorem Es.new {w w' : World} {B a s : Nat} {v u : Value} {e : Rc.E} {xs : List Int} (h : Es w B a s v u e xs) (hc : Chg (fun _ => False) w w') : Es w' B a s v u e xs := h.keep hc (fun f => f) (fun _ _ f => f) (fun f => f) (fun _ _ f => f)

def layE (e : Rc.E) (xs : List Int) (j : Nat) (one : Bool) : Rc.E := if h : j < xs.length then coded e xs[j] (wo one) else Rc.half e one
def layX (xs : List Int) (j : Nat) (one : Bool) : List Int := if h : j < xs.length then xs.set j (Prob.nx xs[j] (wo one)) else xs
theorem wo_dec (one : Bool) : decide (wo one ≠ 0) = one := by cases one <;> rfl
theorem layX_len (xs : List Int) (j : Nat) (one : Bool) : (layX xs j one).length = xs.length := by unfold layX; split <;> simp
theorem layX_in {xs : List Int} (h : In31 xs) (j : Nat) (one : Bool) : In31 (layX xs j one) := by
  unfold layX
  split
  · rename_i hj
    exact h.set j _ (Prob.nx_lo (h.at j hj).1 (h.at j hj).2)
  · exact h
theorem coded_ok {e : Rc.E} {p b : Int} (h : Rc.Ok e) (h1 : 31 ≤ p) (h2 : p ≤ 2017) : Rc.Ok (coded e p b) := by
  have hb := Rc.bound_in (R := e.R) (p := p.toNat) h.lo (by omega) (by omega)
  exact Rc.cut_ok h hb.1 hb.2 _
theorem layE_ok {e : Rc.E} {xs : List Int} (h : Rc.Ok e) (hI : In31 xs) (j : Nat) (one : Bool) : Rc.Ok (layE e xs j one) := by
  unfold layE
  split
  · rename_i hj
    exact coded_ok h (hI.at j hj).1 (hI.at j hj).2
  · exact Rc.half_ok h one
theorem widen_k (e : Rc.E) : e.k ≤ (Rc.widen e).k ∧ (Rc.widen e).k ≤ e.k + 1 := by
  unfold Rc.widen
  split
  · exact ⟨Nat.le_succ _, Nat.le_refl _⟩
  · exact ⟨Nat.le_refl _, Nat.le_succ _⟩
theorem cut_k (e : Rc.E) (b : Nat) (one : Bool) : e.k ≤ (Rc.cut e b one).k ∧ (Rc.cut e b one).k ≤ e.k + 1 := by
  cases one
  · exact widen_k ⟨e.L, b, e.k⟩
  · exact widen_k ⟨e.L + b, e.R - b, e.k⟩
theorem layE_k (e : Rc.E) (xs : List Int) (j : Nat) (one : Bool) : e.k ≤ (layE e xs j one).k ∧ (layE e xs j one).k ≤ e.k + 1 := by
  unfold layE
  split
  · exact cut_k _ _ _
  · exact half_k_le e one
theorem direct_one (e : Rc.E) (one : Bool) : direct (wo one).toNat 1 e = Rc.half e one := by cases one <;> rfl

def e0 : Rc.E := coded Rc.start 1024 1
def x0 : List Int := [Prob.nx 1024 1, 1024, 1024, 1024]
theorem in_x0 : In31 x0 := (In31.half 4).set 0 _ (Prob.nx_lo (by omega) (by omega))
theorem sb_start : sb Rc.start = ⟨#[0, 0, 0, 0, 0]⟩ := by decide +kernel
theorem sb_e0 : sb e0 = ⟨#[0, 127, 255, 252, 0]⟩ := by decide +kernel
theorem ptr_ne (t : TypeId) (x : Addr) (w : World) (ht : t = 27 ∨ t = 23) : (binOp .eql t (.pointer (some x)) (.pointer none)).run Try.prog w = .ok (.bool false) w := by
  rcases ht with rfl | rfl <;> kernel_rfl

end Go.Proofs.Ytibgjpifmpljkaa

/- Arguments in memory; encoders beside one another; of no statement by themselves. -/
namespace Go.Proofs.Ytibgjpifmpljkaa
open Go.RowKit
set_option linter.unusedVariables false

def Bits (w : World) (a : Option Addr) (n : Nat) : Prop := ∀ k, k < n → ∃ b off, a = some ⟨b, off, none⟩ ∧ ∃ i one, w.cell? ⟨b, off + k * 2, none⟩ = some (.int .i64 i) ∧ w.cell? ⟨b, off + k * 2 + 1, none⟩ = some (.bool one) ∧ I64 i
theorem Bits.new {w w' : World} {a : Option Addr} {n : Nat} (h : Bits w a n) (hc : Chg (fun _ => False) w w') : Bits w' a n := fun k hk => by
  obtain ⟨b, off, e, i, one, h0, h1, hi⟩ := h k hk
  exact ⟨b, off, e, i, one, cell_chg h0 hc, cell_chg h1 hc, hi⟩
def Words (w : World) (a : Option Addr) (n : Nat) : Prop := ∀ k, k < n → ∃ b off, a = some ⟨b, off, none⟩ ∧ ∃ x : Nat, w.cell? ⟨b, off + k, none⟩ = some (.int .u32 (x : Int)) ∧ x ≤ 4294967295
theorem Words.new {w w' : World} {a : Option Addr} {n : Nat} (h : Words w a n) (hc : Chg (fun _ => False) w w') : Words w' a n := fun k hk => by
  obtain ⟨b, off, e, i, h0, hi⟩ := h k hk
  exact ⟨b, off, e, i, cell_chg h0 hc, hi⟩
def Ints (w : World) (a : Option Addr) (n : Nat) : Prop := ∀ k, k < n → ∃ b off, a = some ⟨b, off, none⟩ ∧ ∃ i : Int, w.cell? ⟨b, off + k, none⟩ = some (.int .i64 i)
theorem Ints.new {w w' : World} {a : Option Addr} {n : Nat} (h : Ints w a n) (hc : Chg (fun _ => False) w w') : Ints w' a n := fun k hk => by
  obtain ⟨b, off, e, i, h0⟩ := h k hk
  exact ⟨b, off, e, i, cell_chg h0 hc⟩

/-- Nothing in common. -/
def Dis (F G : Nat → Prop) : Prop := ∀ z, F z → G z → False
theorem Dis.symm {F G : Nat → Prop} (h : Dis F G) : Dis G F := fun z g f => h z f g

theorem Enc.foot_lt {w : World} {B a : Nat} {v : Value} {e : Rc.E} (h : Enc w B a v e) {z : Nat} (f : Foot a v z) : B ≤ z ∧ z < w.heap.size := by
  obtain ⟨l, hE, _⟩ := h
  rcases f with rfl | f
  · exact ⟨hE.hr, hE.lt⟩
  · exact hE.own.lt z f
theorem Enc.new {w w' : World} {B a : Nat} {v : Value} {e : Rc.E} (h : Enc w B a v e) (hc : Chg (fun _ => False) w w') : Enc w' B a v e := by
  obtain ⟨l, hE, hI⟩ := h
  exact ⟨l, hE.new hc, hI⟩
theorem Enc.keep {w w' : World} {S : Nat → Prop} {B a : Nat} {v : Value} {e : Rc.E} (h : Enc w B a v e) (hc : Chg S w w') (hd : Dis S (Foot a v)) : Enc w' B a v e := by
  obtain ⟨l, hE, hI⟩ := h
  exact ⟨l, hE.keep hc (fun f => hd a f (.inl rfl)) (fun g e f => hd g f (.inr e)), hI⟩
theorem Enc.chg {w w1 w2 : World} {B a : Nat} {v : Value} {e : Rc.E} (h : Enc w1 B a v e) (hc : Chg (fun _ => False) w w1) (hs : w.heap.size ≤ B) (c2 : Chg (Foot a v) w1 w2) : Chg (fun _ => False) w w2 :=
  hc.trans c2 (fun z f => .inr (Nat.le_trans hs (h.foot_lt f).1))
theorem dis_moved {w : World} {a : Nat} {v v' : Value} {G : Nat → Prop} (hd : Dis (Foot a v) G) (hG : ∀ z, G z → z < w.heap.size) (hm : Moved w v v') : Dis (Foot a v') G := fun z f g => by
  rcases hm.foot a z f with h | h
  · exact hd z h g
  · have := hG z g
    omega

theorem Es.fe_lt {w : World} {B a s : Nat} {v u : Value} {e : Rc.E} {xs : List Int} (h : Es w B a s v u e xs) {z : Nat} (f : Fe a v u z) : B ≤ z ∧ z < w.heap.size := by
  rcases f with f | f
  · exact h.en.foot_lt f
  · exact h.st.own.lt z f
/-- A set is none of what an encoder and its set may change, but for its own row. -/
theorem Es.set_miss {w : World} {B B' a s s' : Nat} {v u u' : Value} {e : Rc.E} {xs xs' : List Int} (h : Es w B a s v u e xs) (h' : St w B' s' u' xs') : ¬ Fe a v u s' := fun f => by
  obtain ⟨l, hE, _⟩ := h.en
  rcases f with f | f
  · rcases f with f | f
    · have h1 := h'.blk
      rw [f] at h1
      exact ty_ne hE.blk h1 (by decide)
    · obtain ⟨cur, hcur⟩ := owns_blk hE.own f
      exact ty_ne hcur h'.blk (by decide)
  · obtain ⟨cur, hcur⟩ := owns_blk h.st.own f
    exact ty_ne hcur h'.blk (by decide)
theorem Es.beside {w w' : World} {B B' a s a' s' : Nat} {v u v' u' : Value} {e e' : Rc.E} {xs xs' : List Int} (h : Es w B a s v u e xs) (h' : Es w B' a' s' v' u' e' xs') (hd : Dis (Fe a v u) (Fe a' v' u')) (hc : Chg (Fe a v u) w w') : Es w' B' a' s' v' u' e' xs' :=
  h'.keep hc (fun f => hd _ f (.inl (.inl rfl))) (fun g e f => hd g f (.inl (.inr e))) (h.set_miss h'.st) (fun g e f => hd g f (.inr e))
theorem fe_moved {w : World} {a : Nat} {v v' u : Value} (hm : Moved w v v') {z : Nat} (f : Fe a v' u z) : Fe a v u z ∨ w.heap.size ≤ z := by
  rcases f with f | f
  · rcases hm.foot a z f with h | h
    · exact .inl (.inl h)
    · exact .inr h
  · exact .inl (.inr f)
theorem fe_dis {w : World} {a : Nat} {v v' u : Value} {G : Nat → Prop} (hd : Dis (Fe a v u) G) (hG : ∀ z, G z → z < w.heap.size) (hm : Moved w v v') : Dis (Fe a v' u) G := fun z f g => by
  rcases fe_moved hm f with h | h
  · exact hd z h g
  · have := hG z g
    omega
theorem Es.chg {w w1 w2 : World} {B a s : Nat} {v u : Value} {e : Rc.E} {xs : List Int} (h : Es w1 B a s v u e xs) (hc : Chg (fun _ => False) w w1) (hs : w.heap.size ≤ B) (c2 : Chg (Fe a v u) w1 w2) : Chg (fun _ => False) w w2 :=
  hc.trans c2 (fun z f => .inr (Nat.le_trans hs (h.fe_lt f).1))
end Go.Proofs.Ytibgjpifmpljkaa
