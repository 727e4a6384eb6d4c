/- TreeBack's steps: what a step makes of an encoder and its rows, and that a decoder reads it back; of no statement by itself. -/
import Derived.Test.YtibgjpifmpljkaaGv
namespace Go.Proofs.Ytibgjpifmpljkaa
open Go.RowKit
set_option linter.unusedVariables false

/-- The bits of a step; is it taken? -/
def Stp.qs (o : Stp) : List Q := if o.kd = 0 then numQ false o.p o.n o.x else if o.kd = 1 then numQ true o.p o.n o.x else if o.kd = 3 then [⟨false, o.p, 0, (bitN o.x).toNat⟩] else if o.kd = 4 then [⟨true, 0, o.n, (IntKind.u32.wrap o.x).toNat⟩] else []
def Stp.taken (o : Stp) (len : Nat) : Prop := (o.kd = 0 ∧ Fits len o.p o.n o.x) ∨ (o.kd = 1 ∧ Fits len o.p o.n o.x) ∨ (o.kd = 3 ∧ 0 ≤ o.p ∧ o.p < (len : Int)) ∨ (o.kd = 4 ∧ 0 ≤ o.n ∧ o.n ≤ 32)
theorem qs0 {o : Stp} (h : o.kd = 0) : o.qs = numQ false o.p o.n o.x := by unfold Stp.qs; rw [if_pos h]
theorem qs1 {o : Stp} (h : o.kd = 1) : o.qs = numQ true o.p o.n o.x := by unfold Stp.qs; rw [if_neg (by omega), if_pos h]
theorem qs3 {o : Stp} (h : o.kd = 3) : o.qs = [⟨false, o.p, 0, (bitN o.x).toNat⟩] := by unfold Stp.qs; rw [if_neg (by omega), if_neg (by omega), if_pos h]
theorem qs4 {o : Stp} (h : o.kd = 4) : o.qs = [⟨true, 0, o.n, (IntKind.u32.wrap o.x).toNat⟩] := by unfold Stp.qs; rw [if_neg (by omega), if_neg (by omega), if_neg (by omega), if_pos h]

/-- All steps, one behind the other, each by its row. -/
def stepR (o : Stp) (e : Rc.E) (R : List (List Int)) : Rc.E × List (List Int) := ((encL o.qs e (R.getD (ofN R.length o.row) [])).1, R.set (ofN R.length o.row) (encL o.qs e (R.getD (ofN R.length o.row) [])).2)
def runR : List Stp → Rc.E → List (List Int) → Rc.E × List (List Int)
  | [], e, R => (e, R)
  | o :: l, e, R => runR l (stepR o e R).1 (stepR o e R).2
theorem runR_append : ∀ (l : List Stp) (o : Stp) (e : Rc.E) (R : List (List Int)), runR (l ++ [o]) e R = stepR o (runR l e R).1 (runR l e R).2
  | [], o, e, R => rfl
  | x :: l, o, e, R => runR_append l o (stepR x e R).1 (stepR x e R).2
def All31 (R : List (List Int)) : Prop := ∀ xs ∈ R, In31 xs
theorem In31.nil : In31 [] := fun x h => (List.not_mem_nil h).elim
theorem All31.at {R : List (List Int)} (h : All31 R) (k : Nat) : In31 (R.getD k []) := by
  rw [List.getD_eq_getElem?_getD]
  cases hk : R[k]? with
  | none => exact In31.nil
  | some xs => exact h xs (List.mem_of_getElem? hk)
theorem stepR_ok {o : Stp} {e : Rc.E} {R : List (List Int)} (hO : Rc.Ok e) (hI : All31 R) : Rc.Within e (stepR o e R).1 ∧ Rc.Ok (stepR o e R).1 ∧ All31 (stepR o e R).2 := by
  have h := encL_within o.qs hO (hI.at (ofN R.length o.row))
  exact ⟨h.1, h.2.1, fun xs hx => (List.mem_or_eq_of_mem_set hx).elim (hI xs) (fun f => by rw [f]; exact h.2.2)⟩
theorem runR_ok : ∀ (l : List Stp) {e : Rc.E} {R : List (List Int)}, Rc.Ok e → All31 R → Rc.Within e (runR l e R).1 ∧ Rc.Ok (runR l e R).1 ∧ All31 (runR l e R).2
  | [], e, R, hO, hI => ⟨Rc.Within.refl e, hO, hI⟩
  | o :: l, e, R, hO, hI => by
    have h1 := stepR_ok (o := o) hO hI
    have h2 := runR_ok l h1.2.1 h1.2.2
    exact ⟨h1.1.trans h2.1, h2.2⟩
theorem runR_drop {l : List Stp} {k : Nat} {o : Stp} (h : l[k]? = some o) (e : Rc.E) (R : List (List Int)) : runR (l.drop k) e R = runR (l.drop (k + 1)) (stepR o e R).1 (stepR o e R).2 := by
  have h1 : k < l.length := (List.getElem?_eq_some_iff.1 h).1
  have h2 : l[k] = o := (List.getElem?_eq_some_iff.1 h).2
  rw [List.drop_eq_getElem_cons h1, h2]
  rfl
theorem bitN_le (x : Int) : 0 ≤ bitN x ∧ bitN x ≤ 1 := by unfold bitN; split <;> omega
theorem bitN_z (x : Int) : bitN x = 0 ↔ x = 0 := by unfold bitN; split <;> omega
theorem enc_bitN {e : Rc.E} {xs : List Int} {j : Nat} {x : Int} (hj : j < xs.length) : encL [⟨false, (j : Int), 0, (bitN x).toNat⟩] e xs = (coded e xs[j] x, xs.set j (Prob.nx xs[j] x)) := by
  have hb := bitN_le x
  have hz := bitN_z x
  have hok : (⟨false, (j : Int), 0, (bitN x).toNat⟩ : Q).ok xs.length := by unfold Q.ok; rw [if_neg (fun f => by cases f)]; exact ⟨by show (0 : Int) ≤ (j : Int); omega, by show (j : Int) < _; omega⟩
  have hE := enc_bit (e := e) (b := (bitN x).toNat) hj (by omega)
  have hc : (((bitN x).toNat : Nat) : Int) = bitN x := by omega
  rw [encL, if_pos hok, hE.1, hE.2, hc, encL]
  have h1 : coded e xs[j] (bitN x) = coded e xs[j] x := by
    unfold coded
    rw [show decide (bitN x ≠ 0) = decide (x ≠ 0) from decide_eq_decide.2 (by rw [Ne, Ne, hz])]
  have h2 : Prob.nx xs[j] (bitN x) = Prob.nx xs[j] x := by
    unfold Prob.nx
    by_cases h : x = 0
    · rw [if_pos (hz.2 h), if_pos h]
    · rw [if_neg (fun f => h (hz.1 f)), if_neg h]
  rw [h1, h2]
theorem enc_dir {e : Rc.E} {xs : List Int} {n : Int} {m : Nat} (h0 : 0 ≤ n) (h1 : n ≤ 32) : encL [⟨true, 0, n, m⟩] e xs = (direct m n.toNat e, xs) := by
  have hok : (⟨true, 0, n, m⟩ : Q).ok xs.length := by unfold Q.ok; rw [if_pos rfl]; exact ⟨h0, h1⟩
  rw [encL, if_pos hok, encL]
  rfl

/-- A step that is taken goes on; each of its bits may be coded. -/
theorem goes_step {o : Stp} {e : Rc.E} {xs : List Int} (hO : Rc.Ok e) (hI : In31 xs) (h : o.taken xs.length) : Goes e xs (encL o.qs e xs).1 (encL o.qs e xs).2 := by
  rcases h with ⟨k, h⟩ | ⟨k, h⟩ | ⟨k, h1, h2⟩ | ⟨k, h1, h2⟩
  · rw [qs0 k]; exact goes_put false hO hI h
  · rw [qs1 k]; exact goes_put true hO hI h
  · obtain ⟨j, hj⟩ : ∃ j : Nat, (j : Int) = o.p := ⟨o.p.toNat, by omega⟩
    rw [← hj] at h2
    have hj2 : j < xs.length := by omega
    have hp := hI.at j hj2
    rw [qs3 k, ← hj, enc_bitN hj2]
    exact ⟨coded_ok hO hp.1 hp.2, hI.set j _ (Prob.nx_lo hp.1 hp.2), List.length_set .., by have := coded_k (e := e) (p := xs[j]) (b := o.x); show (coded e xs[j] o.x).k ≤ _; omega⟩
  · rw [qs4 k, enc_dir h1 h2]
    exact ⟨direct_ok _ _ hO, hI, rfl, by have := direct_k2 (IntKind.u32.wrap o.x).toNat o.n.toNat hO; show (direct _ _ e).k ≤ _; omega⟩

theorem to_self (x : It) : x.to x.xs = x := by cases x; rfl
theorem set_self' (its : List It) (k : Nat) (hk : k < its.length) : its.set k (its[k].to its[k].xs) = its := by rw [to_self, List.set_getElem_self]
theorem pside_put (T : TreePut) (back : Bool) (B a : Nat) (v : Value) (x : It) (e : Rc.E) (p n xv : Int) (hO : Rc.Ok e) (hk : e.k + 33 ≤ 70368744177664) (hI : In31 x.xs) (hl : x.xs.length ≤ 1048576) (hp : I64 p) (hn : I64 n) (hx : I64 xv) : (Fits x.xs.length p n xv → PSide (putF back) #[.pointer (some ⟨a, 0, none⟩), .pointer (some ⟨x.a, 0, none⟩), .int .i64 p, .int .i64 n, .int .i64 xv] B a v x e 0 (encL (numQ back p n xv) e x.xs).1 (encL (numQ back p n xv) e x.xs).2) ∧ (¬ Fits x.xs.length p n xv → PSide (putF back) #[.pointer (some ⟨a, 0, none⟩), .pointer (some ⟨x.a, 0, none⟩), .int .i64 p, .int .i64 n, .int .i64 xv] B a v x e 7 e x.xs) := by
  refine ⟨fun hf w hE hS hB => ?_, fun hf w hE hS hB => ?_⟩
  · refine (T.put back B B a x.a v x.v e x.xs p n xv w hE hO (by omega) hB hS hI hl hp hn hx).mono ?_
    rintro z w' (⟨h1, _⟩ | ⟨_, hz, v', h1, h2, h3, h4⟩)
    · exact absurd hf h1
    · exact ⟨hz, v', h1, h2, h3, h4⟩
  · refine (T.put back B B a x.a v x.v e x.xs p n xv w hE hO (by omega) hB hS hI hl hp hn hx).mono ?_
    rintro z w' (⟨_, hz, c⟩ | ⟨h1, _⟩)
    · exact ⟨hz, v, hE.new c, hS.new c, c.mono (fun _ f => f.elim), moved_same w v⟩
    · exact absurd h1 hf
/-- What is said behind a step that was given: taken or not. -/
def Given (w : World) (B H P : Nat) (av bv : Value) (its : List It) (a : Nat) (v : Value) (e : Rc.E) (o : Stp) (k : Nat) (hk : k < its.length) (z : Ending) (w' : World) : Prop :=
  (o.taken its[k].xs.length ∧ z = .returned (.bool true) ∧ ∃ v', Sts w' B H P av bv (its.set k (its[k].to (encL o.qs e its[k].xs).2)) ∧ Enc w' B a v' (encL o.qs e its[k].xs).1 ∧ Chg (SideP a v its[k]) w w' ∧ Moved w v v')
  ∨ (z = .returned (.bool false) ∧ ∃ v', Sts w' B H P av bv its ∧ Enc w' B a v' e ∧ Chg (SideP a v its[k]) w w' ∧ Moved w v v')
theorem given_any (T : TreePut) (w : World) (B H P : Nat) (av bv : Value) (its : List It) (a : Nat) (v : Value) (e : Rc.E) (o : Stp) (k : Nat) (hk : k < its.length) (hkk : ofN its.length o.row = k) (h : Sts w B H P av bv its) (hE : Enc w B a v e) (hF : ∀ z, Foot a v z → H ≤ z) (hB : B ≤ w.heap.size) (hO : Rc.Ok e) (hkk2 : e.k + 33 ≤ 70368744177664) (hoI : o.I) :
    Calls Try.prog 23 #[.pointer (some ⟨P, 0, none⟩), .pointer (some ⟨a, 0, none⟩), .agg #[.int .i64 o.kd, .int .i64 o.row, .int .i64 o.p, .int .i64 o.n, .int .i64 o.x]] w (Given w B H P av bv its a v e o k hk) := by
  have hI := h.inn k hk
  have hl := h.len k hk
  have hs := set_self' its k hk
  have hno : ∀ {w' : World}, Sts w' B H P av bv (its.set k (its[k].to its[k].xs)) → Sts w' B H P av bv its := fun f => by rw [hs] at f; exact f
  by_cases k0 : o.kd = 0
  · have hp := pside_put T false B a v its[k] e o.p o.n o.x hO hkk2 hI hl hoI.hp hoI.hn hoI.hx
    rw [k0]
    by_cases hf : Fits its[k].xs.length o.p o.n o.x
    · have hg := goes_put false hO hI hf
      refine (given_0 w B H P av bv its a v e o.row o.p o.n o.x k hk hkk h hE hF hB 0 _ _ (hp.1 hf) hg.inn hg.len).mono ?_
      rintro z w' ⟨hz, v', h1, h2⟩
      refine .inl ⟨.inl ⟨k0, hf⟩, hz, v', ?_⟩
      rw [qs0 k0]
      exact ⟨h1, h2⟩
    · refine (given_0 w B H P av bv its a v e o.row o.p o.n o.x k hk hkk h hE hF hB 7 _ _ (hp.2 hf) hI rfl).mono ?_
      rintro z w' ⟨hz, v', h1, h2⟩
      exact .inr ⟨hz, v', hno h1, h2⟩
  by_cases k1 : o.kd = 1
  · have hp := pside_put T true B a v its[k] e o.p o.n o.x hO hkk2 hI hl hoI.hp hoI.hn hoI.hx
    rw [k1]
    by_cases hf : Fits its[k].xs.length o.p o.n o.x
    · have hg := goes_put true hO hI hf
      refine (given_1 w B H P av bv its a v e o.row o.p o.n o.x k hk hkk h hE hF hB 0 _ _ (hp.1 hf) hg.inn hg.len).mono ?_
      rintro z w' ⟨hz, v', h1, h2⟩
      refine .inl ⟨.inr (.inl ⟨k1, hf⟩), hz, v', ?_⟩
      rw [qs1 k1]
      exact ⟨h1, h2⟩
    · refine (given_1 w B H P av bv its a v e o.row o.p o.n o.x k hk hkk h hE hF hB 7 _ _ (hp.2 hf) hI rfl).mono ?_
      rintro z w' ⟨hz, v', h1, h2⟩
      exact .inr ⟨hz, v', hno h1, h2⟩
  by_cases k3 : o.kd = 3
  · rw [k3]
    by_cases hf : o.p < 0 ∨ (its[k].xs.length : Int) ≤ o.p
    · refine (given_3 w B H P av bv its a v e o.row o.p o.n o.x k hk hkk h hE hF hB 7 _ _ (pside_no fun w hE hS => ?_) hI rfl).mono ?_
      · refine (bit_out B its[k].a its[k].v _ its[k].xs o.p _ w hS hf).mono ?_
        rintro z w' ⟨hz, rfl⟩
        exact ⟨hz, Chg.refl _ _⟩
      · rintro z w' ⟨hz, v', h1, h2⟩
        exact .inr ⟨hz, v', hno h1, h2⟩
    · have ht : o.taken its[k].xs.length := .inr (.inr (.inl ⟨k3, by omega, by omega⟩))
      have hg := goes_step hO hI ht
      obtain ⟨j, hj⟩ : ∃ j : Nat, (j : Int) = o.p := ⟨o.p.toNat, by omega⟩
      have hj2 : j < its[k].xs.length := by omega
      have hen := enc_bitN (e := e) (x := o.x) hj2
      have hq := qs3 k3
      rw [← hj] at hq
      refine (given_3 w B H P av bv its a v e o.row o.p o.n o.x k hk hkk h hE hF hB 0 (encL o.qs e its[k].xs).1 (encL o.qs e its[k].xs).2 (fun w hE hS hB => ?_) hg.inn hg.len).mono ?_
      · rw [hq, hen, ← hj]
        exact bit_in B B a its[k].a its[k].v v its[k].xs j o.x e w hS hI hj2 hE hO (by omega) hB
      · rintro z w' ⟨hz, h1⟩
        exact .inl ⟨ht, hz, h1⟩
  by_cases k4 : o.kd = 4
  · rw [k4]
    by_cases hf : o.n < 0 ∨ 32 < o.n
    · refine (given_4 w B H P av bv its a v e o.row o.p o.n o.x k hk hkk h hE hF hB 7 _ _ (pside_no fun w hE hS => ?_) hI rfl).mono ?_
      · refine (direct_out _ _ o.n w hf).mono ?_
        rintro z w' ⟨hz, rfl⟩
        exact ⟨hz, Chg.refl _ _⟩
      · rintro z w' ⟨hz, v', h1, h2⟩
        exact .inr ⟨hz, v', hno h1, h2⟩
    · have ht : o.taken its[k].xs.length := .inr (.inr (.inr ⟨k4, by omega, by omega⟩))
      have hg := goes_step hO hI ht
      obtain ⟨m, hm, em⟩ := u32_nat o.x
      have hmt : (IntKind.u32.wrap o.x).toNat = m := by rw [em]; exact Int.toNat_natCast m
      obtain ⟨j, hj⟩ : ∃ j : Nat, (j : Int) = o.n := ⟨o.n.toNat, by omega⟩
      have hen := enc_dir (e := e) (xs := its[k].xs) (n := o.n) (m := m) (by omega) (by omega)
      have hq := qs4 k4
      rw [hmt] at hq
      have hdk := direct_k_le m j e
      refine (given_4 w B H P av bv its a v e o.row o.p o.n o.x k hk hkk h hE hF hB 0 (encL o.qs e its[k].xs).1 (encL o.qs e its[k].xs).2 (fun w hE hS hB => ?_) hg.inn hg.len).mono ?_
      · rw [hq, hen, em, show o.n.toNat = j by omega, ← hj]
        refine (direct_in B a v e m j w hE hO hm (by omega) (by omega) hB).mono ?_
        rintro z w' ⟨hz, v', h1, h2, h3⟩
        have hs : ∀ g, (g = its[k].a ∨ its[k].v.ownBlock = some g) → ¬ Foot a v g := fun g f f2 => ?_
        · exact ⟨hz, v', h1, hS.keep h2 (hs _ (.inl rfl)) (fun g e => hs g (.inr e)), h2.mono (fun z f => .inl (.inl f)), h3⟩
        · have hf := hE.far f2
          rcases f with f | f
          · rw [f] at hf; exact far_not hf hS.blk (.inl rfl)
          · obtain ⟨cs, hcs⟩ := owns_blk hS.own f; exact far_not hf hcs (.inr (.inl rfl))
      · rintro z w' ⟨hz, h1⟩
        exact .inl ⟨ht, hz, h1⟩
  exact (given_c w B H P av bv its a o.kd o.row o.p o.n o.x k hk hkk h k0 k1 k3 k4).mono fun z w' ⟨hz, h1, c⟩ => .inr ⟨hz, v, h1, hE.new c, c.mono (fun _ f => f.elim), moved_same w v⟩
end Go.Proofs.Ytibgjpifmpljkaa
