/- Questions over natural numbers: what is encoded is read again (P8.6), first bytes are read as all of them (P8.7); of no statement by itself. -/
import Derived.Test.YtejopgopcocapaaRdC
import Derived.Test.YtejopgopcocapaaLaw
namespace Go.Proofs.Ytejopgopcocapaa
open Go.RowKit
set_option linter.unusedVariables false

/-- A question: without a probability, or by one; what is encoded there. -/
structure Q where
  d : Bool
  i : Int
  n : Int
  v : Nat
/-- May it be asked? -/
def Q.ok (q : Q) (len : Nat) : Prop := if q.d then 0 ≤ q.n ∧ q.n ≤ 32 else 0 ≤ q.i ∧ q.i < (len : Int)
instance (q : Q) (len : Nat) : Decidable (q.ok len) := by unfold Q.ok; infer_instance
def Q.bits (q : Q) : Nat := if q.d then q.n.toNat else 1
def pAt (xs : List Int) (i : Int) : Int := xs.getD i.toNat 1024
def pSet (xs : List Int) (i b : Int) : List Int := xs.set i.toNat (Prob.nx (pAt xs i) b)
def encE (q : Q) (e : Rc.E) (xs : List Int) : Rc.E := if q.d then direct q.v q.n.toNat e else coded e (pAt xs q.i) ((q.v % 2 : Nat) : Int)
def encX (q : Q) (xs : List Int) : List Int := if q.d then xs else pSet xs q.i ((q.v % 2 : Nat) : Int)
/-- The answer: an error, or the value, the decoder and the row behind it. -/
def decA (bs : List Nat) (q : Q) (d : Rc.D) (xs : List Int) : Except Nat (Nat × Rc.D × List Int) :=
  if q.ok xs.length then
    if q.d then match dirD bs q.n.toNat 0 d with
      | .error e => .error e
      | .ok (v, d') => .ok (v, d', xs)
    else match Rc.cutD bs d (d.R / 2048 * (pAt xs q.i).toNat) with
      | none => .error 1
      | some d' => .ok ((bt (Rc.oneD d (d.R / 2048 * (pAt xs q.i).toNat))).toNat, d', pSet xs q.i (bt (Rc.oneD d (d.R / 2048 * (pAt xs q.i).toNat))))
  else .error 7

theorem pAt_in {xs : List Int} (h : In31 xs) (i : Int) : 31 ≤ pAt xs i ∧ pAt xs i ≤ 2017 := by
  unfold pAt
  rw [List.getD_eq_getElem?_getD]
  cases e : xs[i.toNat]? with
  | none => exact ⟨by decide, by decide⟩
  | some x => exact h x (List.mem_of_getElem? e)
theorem pSet_in {xs : List Int} (h : In31 xs) (i b : Int) : In31 (pSet xs i b) := h.set _ _ (Prob.nx_lo (pAt_in h i).1 (pAt_in h i).2)
theorem pSet_len (xs : List Int) (i b : Int) : (pSet xs i b).length = xs.length := by simp [pSet]
theorem encX_in {xs : List Int} (h : In31 xs) (q : Q) : In31 (encX q xs) := by
  unfold encX
  split
  · exact h
  · exact pSet_in h _ _
theorem encX_len (q : Q) (xs : List Int) : (encX q xs).length = xs.length := by
  unfold encX
  split
  · rfl
  · exact pSet_len _ _ _

theorem direct_within (x : Nat) : ∀ (m : Nat) (e : Rc.E), Rc.Within e (direct x m e)
  | 0, e => Rc.Within.refl e
  | m + 1, e => (Rc.half_within e _).trans (direct_within x m _)
theorem coded_within {e : Rc.E} (hO : Rc.Ok e) {p : Int} (hp : 31 ≤ p ∧ p ≤ 2017) (b : Int) : Rc.Within e (coded e p b) := by
  have hb := Rc.bound_in (R := e.R) (p := p.toNat) hO.lo (by omega) (by omega)
  exact Rc.cut_within (by omega) _
theorem encE_within {e : Rc.E} (hO : Rc.Ok e) {xs : List Int} (hI : In31 xs) (q : Q) : Rc.Within e (encE q e xs) := by
  unfold encE
  split
  · exact direct_within _ _ _
  · exact coded_within hO (pAt_in hI _) _
theorem encE_ok {e : Rc.E} (hO : Rc.Ok e) {xs : List Int} (hI : In31 xs) (q : Q) : Rc.Ok (encE q e xs) := by
  unfold encE
  split
  · exact direct_ok _ _ hO
  · exact coded_ok hO (pAt_in hI _).1 (pAt_in hI _).2

theorem dir_tracks {F : Rc.E} {b : List Nat} (hb : Rc.Begins F b) (hF : 0 < F.R) (x : Nat) : ∀ (m v0 : Nat) (e : Rc.E) (d : Rc.D), Rc.Tracks e F d → Rc.Within (direct x m e) F → ∃ d', dirD b m v0 d = .ok (2 ^ m * v0 + x % 2 ^ m, d') ∧ Rc.Tracks (direct x m e) F d'
  | 0, v0, e, d, ht, _ => ⟨d, by simp [dirD, Nat.mod_one], ht⟩
  | m + 1, v0, e, d, ht, hw => by
    have hw1 : Rc.Within (Rc.half e (decide (x / 2 ^ m % 2 = 1))) F := (direct_within x m _).trans hw
    obtain ⟨h1, h2, d1, h3, h4⟩ := Rc.half_tracks hb ht hF hw1
    obtain ⟨d', h5, h6⟩ := dir_tracks hb hF x m (2 * v0 + if d.R / 2 ≤ d.C then 1 else 0) _ d1 h4 hw
    refine ⟨d', ?_, h6⟩
    unfold Rc.halfD at h3
    rw [dirD, if_neg h2, h3]
    show dirD b m _ d1 = _
    rw [h5]
    have h7 : (if d.R / 2 ≤ d.C then 1 else 0) = x / 2 ^ m % 2 := by
      unfold Rc.oneD at h1
      have h8 : (d.R / 2 ≤ d.C) ↔ x / 2 ^ m % 2 = 1 := by simpa using h1
      by_cases h9 : x / 2 ^ m % 2 = 1
      · rw [if_pos (h8.2 h9), h9]
      · rw [if_neg (fun k => h9 (h8.1 k))]
        omega
    rw [h7, Nat.mod_pow_succ, Nat.pow_succ]
    congr 2
    rw [Nat.mul_add, Nat.mul_comm (2 ^ m) (x / 2 ^ m % 2), Nat.mul_assoc]
    omega

/-- What was encoded is read again. -/
theorem step_back {F : Rc.E} {b : List Nat} (hb : Rc.Begins F b) (hF : 0 < F.R) (q : Q) {e : Rc.E} {d : Rc.D} {xs : List Int} (hO : Rc.Ok e) (hI : In31 xs) (hq : q.ok xs.length) (ht : Rc.Tracks e F d) (hw : Rc.Within (encE q e xs) F) :
    ∃ d', decA b q d xs = .ok (q.v % 2 ^ q.bits, d', encX q xs) ∧ Rc.Tracks (encE q e xs) F d' := by
  unfold decA
  rw [if_pos hq]
  unfold encE encX Q.bits at *
  by_cases hd : q.d = true
  · rw [if_pos hd] at hw
    rw [if_pos hd, if_pos hd, if_pos hd, if_pos hd]
    obtain ⟨d', h1, h2⟩ := dir_tracks hb hF q.v q.n.toNat 0 e d ht hw
    rw [h1, Nat.mul_zero, Nat.zero_add]
    exact ⟨d', rfl, h2⟩
  · rw [if_neg hd] at hw
    rw [if_neg hd, if_neg hd, if_neg hd, if_neg hd]
    have hR := ht.R
    unfold coded at hw ⊢
    rw [← hR] at hw ⊢
    obtain ⟨h1, d', h2, h3⟩ := Rc.cut_tracks hb ht hF hw
    rw [h2, h1]
    have e1 : bt (decide (((q.v % 2 : Nat) : Int) ≠ 0)) = ((q.v % 2 : Nat) : Int) := by
      unfold bt
      by_cases h : q.v % 2 = 0
      · rw [h]; rfl
      · rw [show q.v % 2 = 1 by omega]; rfl
    rw [e1]
    exact ⟨d', by rw [Int.toNat_natCast, Nat.pow_one], h3⟩

/-- All that may be asked is encoded. -/
def encL : List Q → Rc.E → List Int → Rc.E × List Int
  | [], e, xs => (e, xs)
  | q :: l, e, xs => if q.ok xs.length then encL l (encE q e xs) (encX q xs) else encL l e xs
/-- All is asked, up to the first that is refused: the values, the decoder, the row, and were all answered? -/
def decL (b : List Nat) : List Q → Rc.D → List Int → List Nat × Rc.D × List Int × Bool
  | [], d, xs => ([], d, xs, true)
  | q :: l, d, xs => match decA b q d xs with
    | .error _ => ([], d, xs, false)
    | .ok (v, d', xs') => (v :: (decL b l d' xs').1, (decL b l d' xs').2)

theorem encL_within : ∀ (l : List Q) {e : Rc.E} {xs : List Int}, Rc.Ok e → In31 xs → Rc.Within e (encL l e xs).1 ∧ Rc.Ok (encL l e xs).1 ∧ In31 (encL l e xs).2
  | [], e, xs, hO, hI => ⟨Rc.Within.refl e, hO, hI⟩
  | q :: l, e, xs, hO, hI => by
    unfold encL
    split
    · obtain ⟨h1, h2, h3⟩ := encL_within l (encE_ok hO hI q) (encX_in hI q)
      exact ⟨(encE_within hO hI q).trans h1, h2, h3⟩
    · exact encL_within l hO hI
theorem all_back {F : Rc.E} {b : List Nat} (hb : Rc.Begins F b) (hF : 0 < F.R) : ∀ (l : List Q) {e : Rc.E} {d : Rc.D} {xs : List Int}, Rc.Ok e → In31 xs → (∀ q ∈ l, q.ok xs.length) → Rc.Tracks e F d → Rc.Within (encL l e xs).1 F →
    ∃ d', decL b l d xs = (l.map (fun q => q.v % 2 ^ q.bits), d', (encL l e xs).2, true) ∧ Rc.Tracks (encL l e xs).1 F d'
  | [], e, d, xs, _, _, _, ht, _ => ⟨d, rfl, ht⟩
  | q :: l, e, d, xs, hO, hI, hq, ht, hw => by
    have hq0 := hq q (List.mem_cons_self ..)
    unfold encL at hw ⊢
    rw [if_pos hq0] at hw ⊢
    have hO' := encE_ok hO hI q
    have hI' := encX_in hI q
    obtain ⟨d1, h1, h2⟩ := step_back hb hF q hO hI hq0 ht ((encL_within l hO' hI').1.trans hw)
    obtain ⟨d', h3, h4⟩ := all_back hb hF l hO' hI' (fun r hr => by rw [encX_len]; exact hq r (List.mem_cons_of_mem _ hr)) h2 hw
    refine ⟨d', ?_, h4⟩
    unfold decL
    rw [h1]
    show (_ :: (decL b l d1 (encX q xs)).1, (decL b l d1 (encX q xs)).2) = _
    rw [h3]
    rfl

/-- The first bytes of b. -/
structure Pre (c b : List Nat) : Prop where
  len : c.length ≤ b.length
  eq : ∀ i, i < c.length → c.getD i 0 = b.getD i 0
theorem pre_take (b : List Nat) (k : Nat) : Pre (b.take k) b := ⟨by rw [List.length_take]; omega, fun i hi => by
  rw [List.length_take] at hi
  rw [List.getD_eq_getElem?_getD, List.getD_eq_getElem?_getD, List.getElem?_take, if_pos (by omega)]⟩
theorem Pre.widen {c b : List Nat} (h : Pre c b) {d d' : Rc.D} (hw : Rc.widenD c d = some d') : Rc.widenD b d = some d' := by
  unfold Rc.widenD at *
  split at hw
  · rename_i hR
    split at hw
    · rename_i hn
      have := h.len
      rw [if_pos hR, if_pos (by omega), ← h.eq _ hn]
      exact hw
    · cases hw
  · rename_i hR
    rw [if_neg hR]
    exact hw
theorem Pre.dir {c b : List Nat} (h : Pre c b) : ∀ (m v : Nat) (d : Rc.D) {r : Nat × Rc.D}, dirD c m v d = .ok r → dirD b m v d = .ok r
  | 0, v, d, r, e => e
  | m + 1, v, d, r, e => by
    rw [dirD] at e ⊢
    split at e
    · cases e
    · rename_i hg
      rw [if_neg hg]
      cases e1 : Rc.widenD c (Rc.hpartD d) with
      | none => rw [e1] at e; cases e
      | some d1 =>
        rw [e1] at e
        rw [h.widen e1]
        exact Pre.dir h m _ d1 e
/-- Where the first bytes are answered, all of them are answered so. -/
theorem Pre.step {c b : List Nat} (h : Pre c b) (q : Q) {d : Rc.D} {xs : List Int} {r : Nat × Rc.D × List Int} (e : decA c q d xs = .ok r) : decA b q d xs = .ok r := by
  unfold decA at *
  split at e
  · rename_i hq
    rw [if_pos hq]
    split at e
    · rename_i hd
      rw [if_pos hd]
      cases e1 : dirD c q.n.toNat 0 d with
      | error x => rw [e1] at e; cases e
      | ok y => rw [e1] at e; rw [h.dir _ _ _ e1]; exact e
    · rename_i hd
      rw [if_neg hd]
      cases e1 : Rc.cutD c d (d.R / 2048 * (pAt xs q.i).toNat) with
      | none => rw [e1] at e; cases e
      | some y => rw [e1] at e; rw [show Rc.cutD b d (d.R / 2048 * (pAt xs q.i).toNat) = some y from h.widen e1]; exact e
  · cases e
theorem Pre.all {c b : List Nat} (h : Pre c b) : ∀ (l : List Q) (d : Rc.D) (xs : List Int), ∃ t, (decL b l d xs).1 = (decL c l d xs).1 ++ t
  | [], d, xs => ⟨[], rfl⟩
  | q :: l, d, xs => by
    unfold decL
    cases e : decA c q d xs with
    | error x => exact ⟨_, rfl⟩
    | ok r =>
      obtain ⟨v, d', xs'⟩ := r
      rw [h.step q e]
      obtain ⟨t, ht⟩ := Pre.all h l d' xs'
      exact ⟨t, by show _ :: (decL b l d' xs').1 = _ :: (decL c l d' xs').1 ++ t; rw [ht]; rfl⟩

/-- A decoder that stands stays one. -/
theorem okd_widen {bs : List Nat} {d d' : Rc.D} (hdig : Rc.Dig bs) (h1 : 65536 ≤ d.R) (h2 : d.R ≤ 4294967295) (h3 : d.C < d.R) (h4 : d.n ≤ bs.length) (hw : Rc.widenD bs d = some d') : OkD bs d' := by
  unfold Rc.widenD at hw
  split at hw
  · split at hw
    · simp only [Option.some.injEq] at hw
      subst hw
      have := dig_at hdig d.n
      exact ⟨by show 16777216 ≤ 256 * _; omega, by show 256 * _ ≤ _; omega, by show 256 * d.C + _ < 256 * d.R; omega, by show d.n + 1 ≤ _; omega⟩
    · cases hw
  · simp only [Option.some.injEq] at hw
    subst hw
    exact ⟨by omega, h2, h3, h4⟩
theorem okd_cut {bs : List Nat} {d d' : Rc.D} (hdig : Rc.Dig bs) (h : OkD bs d) {p : Int} (hp : 31 ≤ p ∧ p ≤ 2017) (hw : Rc.cutD bs d (d.R / 2048 * p.toNat) = some d') : OkD bs d' := by
  have hb := Rc.bound_in (R := d.R) (p := p.toNat) h.lo (by omega) (by omega)
  have h2 := h.hi
  have h3 := h.lt
  have h4 := h.n
  unfold Rc.cutD Rc.partD at hw
  generalize d.R / 2048 * p.toNat = x at *
  split at hw
  · exact okd_widen (d := ⟨d.n, d.R - x, d.C - x⟩) hdig (by show 65536 ≤ d.R - x; omega) (by show d.R - x ≤ _; omega) (by show d.C - x < d.R - x; omega) h4 hw
  · exact okd_widen (d := ⟨d.n, x, d.C⟩) hdig (by show 65536 ≤ x; omega) (by show x ≤ _; omega) (by show d.C < x; omega) h4 hw
theorem okd_dir {bs : List Nat} (hdig : Rc.Dig bs) : ∀ (m v : Nat) {d : Rc.D} {r : Nat × Rc.D}, OkD bs d → dirD bs m v d = .ok r → OkD bs r.2 ∧ r.1 < 2 ^ m * (v + 1)
  | 0, v, d, r, h, e => by
    simp only [dirD, Except.ok.injEq] at e
    subst e
    exact ⟨h, by show v < 2 ^ 0 * (v + 1); omega⟩
  | m + 1, v, d, r, h, e => by
    rw [dirD] at e
    split at e
    · cases e
    · rename_i hg
      cases e1 : Rc.widenD bs (Rc.hpartD d) with
      | none => rw [e1] at e; cases e
      | some d1 =>
        rw [e1] at e
        obtain ⟨h1, h2⟩ := okd_dir hdig m _ (okd_half hdig h hg e1) e
        refine ⟨h1, Nat.lt_of_lt_of_le h2 ?_⟩
        rw [Nat.pow_succ, Nat.mul_assoc]
        refine Nat.mul_le_mul (Nat.le_refl _) ?_
        split <;> omega
theorem decA_ok {bs : List Nat} (hdig : Rc.Dig bs) {q : Q} {d d' : Rc.D} {xs xs' : List Int} {v : Nat} (h : OkD bs d) (hI : In31 xs) (e : decA bs q d xs = .ok (v, d', xs')) : q.ok xs.length ∧ v < 2 ^ q.bits ∧ OkD bs d' ∧ In31 xs' ∧ xs'.length = xs.length := by
  unfold decA at e
  split at e
  · rename_i hq
    refine ⟨hq, ?_⟩
    unfold Q.bits
    split at e
    · rename_i hd
      rw [if_pos hd]
      cases e1 : dirD bs q.n.toNat 0 d with
      | error x => rw [e1] at e; cases e
      | ok y =>
        rw [e1] at e
        obtain ⟨h1, h2⟩ := okd_dir hdig _ _ h e1
        simp only [Except.ok.injEq, Prod.mk.injEq] at e
        obtain ⟨rfl, rfl, rfl⟩ := e
        exact ⟨by simpa using h2, h1, hI, rfl⟩
    · rename_i hd
      rw [if_neg hd]
      cases e1 : Rc.cutD bs d (d.R / 2048 * (pAt xs q.i).toNat) with
      | none => rw [e1] at e; cases e
      | some y =>
        rw [e1] at e
        simp only [Except.ok.injEq, Prod.mk.injEq] at e
        obtain ⟨rfl, rfl, rfl⟩ := e
        refine ⟨?_, okd_cut hdig h (pAt_in hI _) e1, pSet_in hI _ _, pSet_len _ _ _⟩
        unfold bt
        split <;> decide
  · cases e

/-- The questions with their answers as what is encoded. -/
def relay : List Nat → List Q → List Q
  | v :: x, q :: l => ⟨q.d, q.i, q.n, v⟩ :: relay x l
  | _, _ => []
theorem relay_all {bs : List Nat} (hdig : Rc.Dig bs) : ∀ (l : List Q) {d : Rc.D} {xs : List Int}, OkD bs d → In31 xs → (∀ q ∈ relay (decL bs l d xs).1 l, q.ok xs.length) ∧ (relay (decL bs l d xs).1 l).map (fun q => q.v % 2 ^ q.bits) = (decL bs l d xs).1
  | [], d, xs, _, _ => ⟨fun q hq => (List.not_mem_nil hq).elim, rfl⟩
  | q :: l, d, xs, hO, hI => by
    unfold decL
    cases e : decA bs q d xs with
    | error x => exact ⟨fun q hq => (List.not_mem_nil hq).elim, rfl⟩
    | ok r =>
      obtain ⟨v, d', xs'⟩ := r
      obtain ⟨h1, h2, h3, h4, h5⟩ := decA_ok hdig hO hI e
      obtain ⟨k1, k2⟩ := relay_all hdig l h3 h4
      refine ⟨fun r hr => ?_, ?_⟩
      · rcases List.mem_cons.1 hr with rfl | hr
        · exact h1
        · rw [← h5]; exact k1 r hr
      · show (v % 2 ^ q.bits) :: (relay (decL bs l d' xs').1 l).map (fun q => q.v % 2 ^ q.bits) = v :: (decL bs l d' xs').1
        rw [k2, Nat.mod_eq_of_lt h2]
end Go.Proofs.Ytejopgopcocapaa
